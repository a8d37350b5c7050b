/-
  Chapter 9: BlockAt of the program.
-/
import Derived.Test.YtckaknaeddiphaaKC
namespace Go.Proofs.Ytckaknaeddiphaa
open Go.RowKit Go.Shelf
attribute [local go_sem] Oper.semAt_some

/-- None of the first k slices is the one that is asked for. -/
def noHit (xs : List Int) (K : Int) (k : Nat) : Prop := ∀ j : Nat, j < k → ¬ (K = (j : Int) ∧ 0 < (sliceOf xs j).length)
theorem noHit_succ {xs : List Int} {K : Int} {k : Nat} (h : noHit xs K k) (hk : ¬ (K = (k : Int) ∧ 0 < (sliceOf xs k).length)) : noHit xs K (k + 1) := fun j hj => by
  by_cases e : j = k
  · subst e; exact hk
  · exact h j (by omega)
theorem noHit_all {xs : List Int} {K : Int} (hb : isBytes xs = true) (h : noHit xs K (slicesOf xs.length)) : blockAt xs K = ([], 4) := by
  unfold blockAt
  rw [if_neg (by rw [hb]; simp), if_neg]
  rintro ⟨h1, h2⟩
  have hl := slice_len xs K.toNat
  exact h K.toNat (by unfold slicesOf; omega) ⟨by omega, by omega⟩
theorem hit_is {xs : List Int} {k : Nat} (hb : isBytes xs = true) (hl : 0 < (sliceOf xs k).length) : blockAt xs (k : Int) = (sliceOf xs k, 0) := by
  have h := slice_len xs k
  unfold blockAt
  rw [if_neg (by rw [hb]; simp), if_pos (by omega), Int.toNat_natCast]
theorem own_ne {E base b : Nat} {W : World} {v : Value} {xs : List Int} (h : Own E W base v xs) (hb : b < base) : v.ownBlock = none ∨ v.ownBlock ≠ some b := by
  cases hk : v.ownBlock with
  | none => exact .inl rfl
  | some k => exact .inr (fun e => by have := (h.block k hk).1; cases e; omega)
set_option linter.unusedSimpArgs false in
set_option maxRecDepth 100000 in
set_option maxHeartbeats 4000000 in
theorem blockAt_in (ao : Option Addr) (n cap : Nat) (xs : List Int) (K : Int) (w : World) (hr : Rd w ao n xs) (hb : isBytes xs = true) (hcap : n ≤ cap) (hcap2 : cap ≤ 9223372036854775807) :
    Calls Try.prog 20 #[.slice ao n cap, .int .i64 K] w (Makes2 2 w (blockAt xs K).1 (blockAt xs K).2) := by
  have hlen := hr.len
  have hn : n ≤ 1024 := by have := (isBytes_iff.1 hb).1; omega
  have hisb := fun W h => isBytes_any ao n cap xs W h (by omega)
  rw [hb] at hisb
  obtain ⟨hN1, hN9, hNk⟩ := slices_ok hn
  have hfin := noHit_all (K := K) hb
  rw [hlen] at hfin
  generalize slicesOf n = N at *
  refine (callsIn_wide (n := 9)).1 ?_
  refine callsIn_of_wp_marks Try.func20 rfl trivial ?_ rfl
  simp only [Try.ntmps20, List.size_toArray, List.length_cons, List.length_nil, Nat.reduceAdd, Nat.reduceSub, Array.replicate_succ, Array.replicate_zero, List.push_toArray, List.append_toArray, List.nil_append, List.cons_append]
  have k0 := ((Boxed.new w 2 (.int .i64 K)).alloc (.cells #[.slice none 0 0] 24)).alloc (.cells #[.int .i64 0] 2)
  have r0 := (Boxed.new (w.alloc (.cells #[.int .i64 K] 2)) 24 (.slice none 0 0)).alloc (.cells #[.int .i64 0] 2)
  have e0 := Boxed.new ((w.alloc (.cells #[.int .i64 K] 2)).alloc (.cells #[.slice none 0 0] 24)) 2 (.int .i64 0)
  simp only [World.size_alloc] at r0 e0
  have b0 : Below w.heap.size w (((w.alloc (.cells #[.int .i64 K] 2)).alloc (.cells #[.slice none 0 0] 24)).alloc (.cells #[.int .i64 0] 2)) := (((Below.refl _ w).alloc (Nat.le_refl _) _).alloc (by simp) _).alloc (by simp; omega) _
  have s0 : (((w.alloc (.cells #[.int .i64 K] 2)).alloc (.cells #[.slice none 0 0] 24)).alloc (.cells #[.int .i64 0] 2)).heap.size = w.heap.size + 3 := by simp
  gi_wp2_with (refine ⟨trivial, ?_⟩; gi_at_call 34; refine (callsIn_wide.2 (hisb _ (hr.below b0))).mono ?_; rintro e w' ⟨rfl, rfl⟩)
  generalize ((w.alloc (.cells #[.int .i64 K] 2)).alloc (.cells #[.slice none 0 0] 24)).alloc (.cells #[.int .i64 0] 2) = wb at k0 r0 e0 b0 s0 ⊢
  refine ⟨trivial, (callsIn_wide.2 (partsOf_any ao n cap 33 _)).mono ?_⟩
  rintro e w' ⟨rfl, rfl⟩
  have c1 := (Boxed.new wb 24 (.slice ao n cap)).alloc (.cells #[.int .i64 33] 3)
  have c2 := Boxed.new (wb.alloc (.cells #[.slice ao n cap] 24)) 3 (.int .i64 33)
  have k1 := (k0.alloc (.cells #[.slice ao n cap] 24)).alloc (.cells #[.int .i64 33] 3)
  have r1 := (r0.alloc (.cells #[.slice ao n cap] 24)).alloc (.cells #[.int .i64 33] 3)
  have e1 := (e0.alloc (.cells #[.slice ao n cap] 24)).alloc (.cells #[.int .i64 33] 3)
  have hbw : Below w.heap.size w ((wb.alloc (.cells #[.slice ao n cap] 24)).alloc (.cells #[.int .i64 33] 3)) := (b0.alloc b0.size _).alloc (by simp; omega) _
  rw [World.size_alloc, s0] at c2
  rw [s0] at c1 ⊢
  have hs1 : ((wb.alloc (.cells #[.slice ao n cap] 24)).alloc (.cells #[.int .i64 33] 3)).heap.size = w.heap.size + 5 := by simp [s0]
  clear k0 r0 e0 b0 s0
  generalize (wb.alloc (.cells #[.slice ao n cap] 24)).alloc (.cells #[.int .i64 33] 3) = w1 at c1 c2 k1 r1 e1 hbw hs1 ⊢
  gi_wp2
  refine wpIn_range (n := 9) (gf := 56) (lb := #[.pointer (some ⟨w.heap.size + 3, 0, none⟩), .pointer (some ⟨w.heap.size + 3 + 1, 0, none⟩)]) rfl (enters_of Try.func56 (by kernel_rfl) rfl)
    (parts_seq (w.heap.size + 3) (w.heap.size + 3 + 1) 33 N n cap ao xs w w1 hr hcap hcap2 (by omega) (by omega) (by omega) hN1 (by omega) hNk (fun k _ => k ≠ w.heap.size + 1 ∧ k ≠ w.heap.size + 2) ⟨by omega, by omega⟩ c1 c2) (Below.refl _ _)
    (fun k o hk hc => ⟨by omega, by omega⟩) (fun _ => rfl)
    (fun k W' => (Boxed W' w.heap.size 2 (.int .i64 K) ∧ Boxed W' (w.heap.size + 1) 24 (.slice none 0 0)) ∧ (Boxed W' (w.heap.size + 2) 2 (.int .i64 0) ∧ (Below w.heap.size w W' ∧ noHit xs K k)))
    (fun c _ W' => HoldsL 2 24 (w.heap.size + 3) (w.heap.size + 1) W' (blockAt xs K).1 ∧ (Boxed W' (w.heap.size + 2) 2 (.int .i64 0) ∧ (Below w.heap.size w W' ∧ (c = .ret ∧ (blockAt xs K).2 = 0))))
    (OwnFrom.and (OwnFrom.and (own_boxed _ _ _ _) (own_boxed _ _ _ _)) (OwnFrom.and (own_boxed _ _ _ _) (OwnFrom.and (ownFrom_below (Nat.le_refl _) (by omega)) (fun _ _ _ _ h _ _ => h))))
    (fun c => OwnFrom.and (own_holds _ _ _ _ _ (fun _ => (blockAt xs K).1)) (OwnFrom.and (own_boxed _ _ _ _) (OwnFrom.and (ownFrom_below (Nat.le_refl _) (by omega)) (fun _ _ _ _ h _ _ => h))))
    ⟨⟨k1, r1⟩, e1, hbw, fun j hj => absurd hj (by omega)⟩
    (fun k x a' _ => a' = { tmps := #[.slice ao n cap, .int .i64 K, undef, .pointer (some ⟨w.heap.size, 0, none⟩), .pointer (some ⟨w.heap.size + 1, 0, none⟩), .pointer (some ⟨w.heap.size + 1 + 1, 0, none⟩), .int .i64 (x.1 : Int), .slice x.2.1 x.2.2.1 x.2.2.2, .slice ao n cap, .bool true, .bool false, .slice ao n cap, .func (.func 56) #[] #[.pointer (some ⟨w.heap.size + 3, 0, none⟩), .pointer (some ⟨w.heap.size + 3 + 1, 0, none⟩)], .int .i64 (x.1 : Int), .slice x.2.1 x.2.2.1 x.2.2.2, undef, undef, undef, undef, undef, undef, undef, undef, undef, undef], defers := [] })
    (fun _ _ _ _ _ _ _ hs _ _ => hs)
    ?assign ?body ?done ?stop
  case assign =>
    rintro l2 k x W1 K' hk hx hI hK
    dsimp only [partEnc]
    gi_wp2
    exact hK _ _ (Keeps.refl _) hI rfl
  case body =>
    rintro l k ⟨k', a, m, c⟩ a' W1 hl hk ⟨rfl, hrp, hmc, hc9⟩ ⟨⟨k2, r2⟩, e2, hB, hno⟩ rfl
    dsimp only at hrp hmc hc9 hk ⊢
    have hrd := (Low.of_below hB).rd hrp
    change Rd W1 a m (sliceOf xs k') at hrd
    have hml : (sliceOf xs k').length = m := hrd.len
    have hkc := k2.cell
    by_cases hKk : K = (k' : Int)
    · have hq : ((k' : Int) == K) = true := by simp [hKk]
      by_cases hm0 : 0 < m
      · have hit := hit_is hb (k := k') (by omega)
        rw [← hKk] at hit
        obtain ⟨b, off, rfl, -⟩ := hrd.here hm0
        have hcl := clone_any ⟨b, off, none⟩ m c (sliceOf xs k') W1 hrd (by have := slice_len xs k'; omega)
        have hm0' : (0 : Int) < (m : Int) := by omega
        have HCL := Lib.hid hcl
        have R2 := Lib.hid r2; have E2 := Lib.hid e2; have HIT := Lib.hid hit
        clear hcl hrd hit r2 e2 hrp hno hKk hml
        gi_wp2_with (refine ⟨trivial, ?_⟩; gi_at_call 47; refine (CallsIn.inRound l (callsIn_wide.2 HCL.out)).mono ?_; rintro e w2 ⟨v2, rfl, o2, b2⟩; obtain ⟨p2, c2', rfl, o2, -⟩ := o2.get; have O2 := Lib.hid (o2.more (base' := w.heap.size + 3) (by have := E2.out.lt; omega)); have R3 := Lib.hid (boxed_below R2.out b2); have E3 := Lib.hid (boxed_below E2.out b2); have rc := R3.out.cell; have rf := R3.out.frozen; have ec := E3.out.cell; have ef := E3.out.frozen; have B2 := Lib.hid b2; clear o2 b2)
        have R4 := (R3.out.set (.slice p2 (sliceOf xs k').length c2')).kept (grownBy_setCell' _ (w.heap.size + 1 + 1) (.int .i64 0)) (by simp)
        have E4 := (E3.out.kept (grownBy_setCell' w2 (w.heap.size + 1) (.slice p2 (sliceOf xs k').length c2')) (by simp)).set (.int .i64 0)
        have O4 := (O2.out.only (grownBy_setCell' w2 (w.heap.size + 1) (.slice p2 (sliceOf xs k').length c2')) (own_ne O2.out (by omega))).only (grownBy_setCell' _ (w.heap.size + 1 + 1) (.int .i64 0)) (own_ne O2.out (by omega))
        refine ⟨((Keeps.still B2.out).trans (Keeps.set _ _ (fun _ h => h.1 rfl))).trans (Keeps.set _ _ (fun _ h => h.2 rfl)), ?_, E4, ((below_two hB B2.out).setCell (p := ⟨w.heap.size + 1, 0, none⟩) (by simp) _).setCell (p := ⟨w.heap.size + 1 + 1, 0, none⟩) (by simp; omega) _, rfl, by rw [HIT.out]⟩
        rw [HIT.out]
        exact ⟨_, R4, O4⟩
      · have hm0' : ¬ (0 : Int) < (m : Int) := by omega
        have hno2 := noHit_succ hno (by rw [hml]; exact fun h => hm0 h.2)
        have K2 := Lib.hid k2; have R2 := Lib.hid r2; have E2 := Lib.hid e2; have N2 := Lib.hid hno2
        clear hrd r2 e2 k2 hrp hno hKk hml hno2
        gi_wp2
        exact ⟨Keeps.refl _, ⟨K2.out, R2.out⟩, E2.out, hB, N2.out⟩
    · have hq : ((k' : Int) == K) = false := by simp; omega
      have hno2 := noHit_succ hno (fun h => hKk h.1)
      have K2 := Lib.hid k2; have R2 := Lib.hid r2; have E2 := Lib.hid e2; have N2 := Lib.hid hno2
      clear hrd r2 e2 k2 hrp hno hKk hml hno2
      gi_wp2
      exact ⟨Keeps.refl _, ⟨K2.out, R2.out⟩, E2.out, hB, N2.out⟩
  case done =>
    rintro D W' hD ⟨⟨k2, r2⟩, e2, hB, hno⟩ hK
    have rc := r2.cell; have rf := r2.frozen
    have ec := e2.cell; have ef := e2.frozen
    gi_wp2
    have hK' := (KeepsOthers.setCell _ ⟨w.heap.size + 1 + 1, 0, none⟩ (.int .i64 4)).same D _ ((KeepsOthers.setCell W' ⟨w.heap.size + 1, 0, none⟩ (.slice none 0 0)).same D _ hK rfl) rfl
    have R4 := ((r2.set (.slice none 0 0)).kept (grownBy_setCell' _ (w.heap.size + 1 + 1) (.int .i64 4)) (by simp)).kept (grownBy_putObj' _ D (.deferred none)) (by simp; omega)
    have E4 := ((e2.kept (grownBy_setCell' W' (w.heap.size + 1) (.slice none 0 0)) (by simp)).set (.int .i64 4)).kept (grownBy_putObj' _ D (.deferred none)) (by simp; omega)
    have hBz := ((hB.setCell (p := ⟨w.heap.size + 1, 0, none⟩) (by simp) (.slice none 0 0)).setCell (p := ⟨w.heap.size + 1 + 1, 0, none⟩) (by simp; omega) (.int .i64 4)).trans (belowK_b (w := w) (Nat.le_refl _) _ D _ (.deferred none) (by omega) hK' rfl rfl)
    refine ⟨by simp, .inl ⟨_, _, rfl, run_takeDeferred hK', ?_⟩⟩
    have rz := R4.cell; have ez := E4.cell
    exact ⟨.tuple #[.slice none 0 0, .int .i64 4], by simp [results, Try.results20, go_sem, rz, ez], .slice none 0 0, by rw [hfin hno], by rw [hfin hno]; exact Own.nil_, hBz⟩
  case stop =>
    rintro D c k W' hD _ _ ⟨⟨v, hv, ho⟩, e2, hB, rfl, hz⟩ hK
    gi_wp2
    have R4 := hv.kept (grownBy_putObj' W' D (.deferred none)) (by simp; omega)
    have E4 := e2.kept (grownBy_putObj' W' D (.deferred none)) (by simp; omega)
    have O4 := ho.only (grownBy_putObj' W' D (.deferred none)) (by
      cases hk : v.ownBlock with
      | none => exact .inl rfl
      | some j => exact .inr (fun e => by obtain ⟨_, cur, h2⟩ := own_cells ho hk; cases e; rw [hK] at h2; cases h2))
    have hBz := hB.trans (belowK_b (w := w) (Nat.le_refl _) W' D _ (.deferred none) (by omega) hK rfl rfl)
    refine ⟨by simp, .inl ⟨_, _, rfl, run_takeDeferred hK, ?_⟩⟩
    have rz := R4.cell; have ez := E4.cell
    rw [hz]
    exact ⟨.tuple #[v, .int .i64 0], by simp [results, Try.results20, go_sem, rz, ez], v, rfl, O4.more (by omega), hBz⟩
theorem blockAt_any (ao : Option Addr) (cap : Nat) (xs : List Int) (K : Int) (w : World) (hr : Rd w ao xs.length xs) (hn : xs.length ≤ 1048576) (hcap : xs.length ≤ cap) (hcap2 : cap ≤ 9223372036854775807) :
    Calls Try.prog 20 #[.slice ao xs.length cap, .int .i64 K] w (Makes2 2 w (blockAt xs K).1 (blockAt xs K).2) := by
  have hcall := fun W h => isBytes_any ao xs.length cap xs W h (by omega)
  rcases hb : isBytes xs with _ | _
  · rw [show blockAt xs K = ([], 2) from by unfold blockAt; rw [hb]; rfl]
    rw [hb] at hcall
    have HR := Lib.hid hr; clear hr
    generalize xs.length = n at hcall HR
    have k0 := ((Boxed.new w 2 (.int .i64 K)).alloc (.cells #[.slice none 0 0] 24)).alloc (.cells #[.int .i64 0] 2)
    have r0 := (Boxed.new (w.alloc (.cells #[.int .i64 K] 2)) 24 (.slice none 0 0)).alloc (.cells #[.int .i64 0] 2)
    have e0 := Boxed.new ((w.alloc (.cells #[.int .i64 K] 2)).alloc (.cells #[.slice none 0 0] 24)) 2 (.int .i64 0)
    simp only [World.size_alloc] at r0 e0
    have b0 : Below w.heap.size w (((w.alloc (.cells #[.int .i64 K] 2)).alloc (.cells #[.slice none 0 0] 24)).alloc (.cells #[.int .i64 0] 2)) := (((Below.refl _ w).alloc (Nat.le_refl _) _).alloc (by simp) _).alloc (by simp; omega) _
    go_enter Try.func20, Try.ntmps20
    go_wp2_with fail
    refine (hcall _ (HR.out.below b0)).mono ?_
    rintro e w1 ⟨rfl, rfl⟩
    generalize ((w.alloc (.cells #[.int .i64 K] 2)).alloc (.cells #[.slice none 0 0] 24)).alloc (.cells #[.int .i64 0] 2) = wb at k0 r0 e0 b0 ⊢
    have rc := r0.cell; have rf := r0.frozen
    have ec := e0.cell; have ef := e0.frozen
    have R4 := (r0.set (.slice none 0 0)).kept (grownBy_setCell' _ (w.heap.size + 1 + 1) (.int .i64 2)) (by simp)
    have E4 := (e0.kept (grownBy_setCell' wb (w.heap.size + 1) (.slice none 0 0)) (by simp)).set (.int .i64 2)
    have rz := R4.cell; have ez := E4.cell
    have BZ := Lib.hid ((b0.setCell (p := ⟨w.heap.size + 1, 0, none⟩) (by simp) (.slice none 0 0)).setCell (p := ⟨w.heap.size + 1 + 1, 0, none⟩) (by simp; omega) (.int .i64 2))
    go_wp2
    exact bodyPost_ret (v := .tuple #[.slice none 0 0, .int .i64 2]) (by simp [results, Try.results20, go_sem, rz, ez]) rfl ⟨_, rfl, Own.nil_, BZ.out⟩
  · exact blockAt_in ao xs.length cap xs K w hr hb hcap hcap2
end Go.Proofs.Ytckaknaeddiphaa
