/-
  Chapter 9: ImageOf of the program, its errors too; DamagedBlocks of the program.
-/
import Derived.Test.YtckaknaeddiphaaKB
namespace Go.Proofs.Ytckaknaeddiphaa
open Go.RowKit Go.Shelf
attribute [local go_sem] Oper.semAt_some

theorem imageOf_any (ao : Option Addr) (cap : Nat) (xs : List Int) (w : World) (hr : Rd w ao xs.length xs) (hn : xs.length ≤ 1048576) (hcap : xs.length ≤ cap) (hcap2 : cap ≤ 9223372036854775807) :
    Calls Try.prog 11 #[.slice ao xs.length cap] w (Makes2 2 w (imageOf xs).1 (imageOf xs).2) := by
  have hcall := fun W h => isBytes_any ao xs.length cap xs W h (by omega)
  rcases hb : isBytes xs with _ | _
  · rw [show imageOf xs = ([], 2) from by unfold imageOf; rw [hb]; rfl]
    rw [hb] at hcall
    have HR := Lib.hid hr; clear hr
    generalize xs.length = n at hcall HR
    go_enter Try.func11, Try.ntmps11
    go_wp2_with fail
    refine (hcall _ HR.out).mono ?_
    rintro e w1 ⟨rfl, rfl⟩
    go_wp2
    go_ret2
    exact ⟨_, rfl, Own.nil_, Below.refl _ _⟩
  · by_cases hl : 868 < xs.length
    · rw [show imageOf xs = ([], 3) from by unfold imageOf; rw [if_neg (by rw [hb]; simp), if_pos hl]]
      rw [hb] at hcall
      have HR := Lib.hid hr; clear hr
      have hgt : (868 : Int) < (xs.length : Int) := by omega
      clear hcap hcap2 hn hl
      generalize xs.length = n at *
      go_enter Try.func11, Try.ntmps11
      go_wp2_with fail
      refine (hcall _ HR.out).mono ?_
      rintro e w1 ⟨rfl, rfl⟩
      go_wp2
      go_ret2
      exact ⟨_, rfl, Own.nil_, Below.refl _ _⟩
    · rw [show imageOf xs = (image9 xs, 0) from by unfold imageOf; rw [if_neg (by rw [hb]; simp), if_neg hl]]
      exact image_in ao xs.length cap xs w hr hb (by omega) hcap hcap2
theorem slices_ok {n : Nat} (hn : n ≤ 1024) : 1 ≤ slicesOf n ∧ slicesOf n ≤ 33 ∧ ∀ k, k < slicesOf n → (k + 1 < slicesOf n ↔ 33 * (k + 1) < n) := by
  refine ⟨?_, ?_, fun k hk => ?_⟩ <;> unfold slicesOf at * <;> omega
set_option linter.unusedSimpArgs false in
set_option maxRecDepth 100000 in
set_option maxHeartbeats 4000000 in
theorem damaged_in (ao : Option Addr) (n cap : Nat) (xs : List Int) (w : World) (hr : Rd w ao n xs) (hb : isBytes xs = true) (hcap : n ≤ cap) (hcap2 : cap ≤ 9223372036854775807) :
    Calls Try.prog 16 #[.slice ao n cap] w (Makes2 2 w (dmgTo xs (slicesOf n)) 0) := by
  have hlen := hr.len
  have hn : n ≤ 1024 := by have := (isBytes_iff.1 hb).1; omega
  have hisb := fun W h => isBytes_any ao n cap xs W h (by omega)
  rw [hb] at hisb
  obtain ⟨hN1, hN9, hNk⟩ := slices_ok hn
  generalize slicesOf n = N at *
  refine (callsIn_wide (n := 9)).1 ?_
  refine callsIn_of_wp_marks Try.func16 rfl trivial ?_ rfl
  simp only [Try.ntmps16, List.size_toArray, List.length_cons, List.length_nil, Nat.reduceAdd, Nat.reduceSub, Array.replicate_succ, Array.replicate_zero, List.push_toArray, List.append_toArray, List.nil_append, List.cons_append]
  gi_wp2_with (first
    | (refine ⟨trivial, ?_⟩; gi_at_call 34; refine (callsIn_wide.2 (hisb _ hr)).mono ?_; rintro e w' ⟨rfl, rfl⟩)
    | (refine ⟨trivial, ?_⟩; gi_at_call 40; refine (callsIn_wide.2 (partsOf_any ao n cap 33 _)).mono ?_; rintro e w' ⟨rfl, rfl⟩))
  have bi := ((Boxed.new w 24 (.slice none 0 0)).alloc (.cells #[.slice ao n cap] 24)).alloc (.cells #[.int .i64 33] 3)
  have c1 := (Boxed.new (w.alloc (.cells #[.slice none 0 0] 24)) 24 (.slice ao n cap)).alloc (.cells #[.int .i64 33] 3)
  have c2 := Boxed.new ((w.alloc (.cells #[.slice none 0 0] 24)).alloc (.cells #[.slice ao n cap] 24)) 3 (.int .i64 33)
  have hbw : Below w.heap.size w (((w.alloc (.cells #[.slice none 0 0] 24)).alloc (.cells #[.slice ao n cap] 24)).alloc (.cells #[.int .i64 33] 3)) := (((Below.refl _ w).alloc (Nat.le_refl _) _).alloc (by simp) _).alloc (by simp; omega) _
  simp only [World.size_alloc] at c1 c2
  have hs1 : (((w.alloc (.cells #[.slice none 0 0] 24)).alloc (.cells #[.slice ao n cap] 24)).alloc (.cells #[.int .i64 33] 3)).heap.size = w.heap.size + 3 := by simp
  generalize ((w.alloc (.cells #[.slice none 0 0] 24)).alloc (.cells #[.slice ao n cap] 24)).alloc (.cells #[.int .i64 33] 3) = w1 at bi c1 c2 hbw hs1 ⊢
  refine wpIn_range (n := 9) (gf := 56) (lb := #[.pointer (some ⟨w.heap.size + 1, 0, none⟩), .pointer (some ⟨w.heap.size + 1 + 1, 0, none⟩)]) rfl (enters_of Try.func56 (by kernel_rfl) rfl)
    (parts_seq (w.heap.size + 1) (w.heap.size + 1 + 1) 33 N n cap ao xs w w1 hr hcap hcap2 (by omega) (by omega) (by omega) hN1 (by omega) hNk (keepM 2 w1.heap.size w.heap.size) (.inl ⟨by omega, by omega⟩) c1 c2) (Below.refl _ _)
    (fun k o hk hc => .inr ⟨hk, notE_of_not hc⟩) (fun _ => rfl)
    (fun k W' => HoldsL 2 24 w1.heap.size w.heap.size W' (dmgTo xs k) ∧ (Below w.heap.size w W' ∧ w1.heap.size ≤ W'.heap.size))
    (fun _ _ _ => False)
    (OwnFrom.and (own_holds _ _ _ _ _ _) (OwnFrom.and (ownFrom_below (Nat.le_refl _) (by omega)) (own_size _ _)))
    (fun _ _ _ _ _ h _ _ => h)
    ⟨⟨_, bi, Own.nil_⟩, hbw, Nat.le_refl _⟩
    (fun k x a' _ => a' = { tmps := #[.slice ao n cap, undef, .slice none 0 0, .int .i64 0, .pointer (some ⟨w.heap.size, 0, none⟩), .int .i64 (x.1 : Int), .slice x.2.1 x.2.2.1 x.2.2.2, .slice ao n cap, .bool true, .bool false, .slice ao n cap, .func (.func 56) #[] #[.pointer (some ⟨w.heap.size + 1, 0, none⟩), .pointer (some ⟨w.heap.size + 1 + 1, 0, none⟩)], .int .i64 (x.1 : Int), .slice x.2.1 x.2.2.1 x.2.2.2, undef, undef, undef, undef, undef, undef, undef, undef, undef], defers := [] })
    (fun _ _ _ _ _ _ _ hs _ _ => hs)
    ?assign ?body ?done ?stop
  case assign =>
    rintro l2 k x W1 K hk hx hI hK
    dsimp only [partEnc]
    gi_wp2
    exact hK _ _ (Keeps.refl _) hI rfl
  case body =>
    rintro l k ⟨k', a, m, c⟩ a' W1 hl hk ⟨rfl, hrp, hmc, hc9⟩ ⟨⟨v, hv, ho⟩, hB, hs1W⟩ rfl
    dsimp only at hrp hmc hc9 hk ⊢
    have hrd := (Low.of_below hB).rd hrp
    change Rd W1 a m (sliceOf xs k') at hrd
    have hsb : isBytes (sliceOf xs k') = true := bytes_take (bytes_drop hb (33 * k')) 33
    have hin := isIntact_any k' a m c (sliceOf xs k') W1 (by omega) hrd hsb hmc hc9
    have hsu := dmgTo_succ xs k'
    have hac := dmgTo_len xs k'
    obtain ⟨acc, hacc⟩ : ∃ acc, dmgTo xs k' = acc := ⟨_, rfl⟩
    rw [hacc] at hac hsu ho
    obtain ⟨q, hq⟩ : ∃ q, bad9 k' (sliceOf xs k') = q := ⟨_, rfl⟩
    rw [hq] at hin hsu
    have HSU := Lib.hid hsu; have HAC := Lib.hid hac
    have HIN := Lib.hid hin
    clear hrd hsb hin hsu hac hacc hq hrp hmc hc9
    cases q with
    | false =>
      rw [if_neg (by simp)] at HSU
      gi_wp2_with (refine ⟨trivial, ?_⟩; gi_at_call 43; refine (CallsIn.inRound l (callsIn_wide.2 HIN.out)).mono ?_; rintro e w2 ⟨rfl, b2⟩)
      exact ⟨Keeps.still b2, by rw [HSU.out]; exact ⟨v, boxed_below hv b2, ho.below b2⟩, below_two hB b2, Nat.le_trans hs1W b2.size⟩
    | true =>
      rw [if_pos rfl] at HSU
      have HV := Lib.hid hv; have HO := Lib.hid ho
      clear hv ho
      gi_wp2_with (first
        | (refine ⟨trivial, ?_⟩; gi_at_call 43; refine (CallsIn.inRound l (callsIn_wide.2 HIN.out)).mono ?_; rintro e w2 ⟨rfl, b2⟩; have HV2 := Lib.hid (boxed_below HV.out b2); have hcv := HV2.out.cell; have HO2 := Lib.hid (HO.out.below b2); have HK2 := Lib.hid (Keeps.still (M := keepM 2 w1.heap.size w.heap.size) b2); have HB2 := Lib.hid (below_two hB b2); have HS2 := Lib.hid (Nat.le_trans hs1W b2.size); clear b2)
        | (gi_at_builtin; (refine listIn_append rfl (.tmp 18) (.tmp 20) rfl w1.heap.size Try.underlying24 info64 v acc rfl (HO2.out.below ((Below.refl _ _).alloc (Nat.le_refl _) _)) _ _ _ [(k' : Int)] rfl (rd_oneC (new_cell rfl)) (by have := HAC.out; omega) (by have := HS2.out; simp; omega) ?_; intro v' w4 o4 g4; obtain ⟨p4, c4, rfl, o4, -⟩ := o4.get; have D4 := (Below.refl w2.heap.size w2).alloc (Nat.le_refl _) (.cells #[.int .i64 (k' : Int)] 2); have HP := Lib.hid (HoldsL.push (by decide) (by omega) (HV2.out.alloc _) (HO2.out.below D4) g4 o4); have HK4 := Lib.hid ((HK2.out.trans (Keeps.still D4)).trans (keep_push (HO2.out.below D4) g4 (by omega) (.slice p4 (acc ++ [(k' : Int)]).length c4))); have HB4 := Lib.hid (only_below (HB2.out.trans (D4.mono HB2.out.size)) g4 (by have := HB2.out.size; simp; omega) (fun j hj => by have := ((HO2.out.below D4).block j hj).1; omega)); have hcv4 := HP.out.1.cell; have hfv4 := HP.out.1.frozen; clear D4 g4 o4)))
      have h1 := HP.out.2
      have h2 := HK4.out
      have h3 := h2.size
      rw [List.length_append] at h1 h2 h3
      exact ⟨h2, by rw [HSU.out]; exact h1, HB4.out.setCell (p := ⟨w.heap.size, 0, none⟩) (Nat.le_refl _) _, Nat.le_trans hs1W h3⟩
  case done =>
    rintro D W' hD ⟨⟨v, hv, ho⟩, hB, hs1W⟩ hK
    have hc := hv.cell
    gi_wp2
    refine ⟨by simp, .inl ⟨_, _, rfl, run_takeDeferred hK, ?_⟩⟩
    exact ⟨_, results_tmp2 rfl _ _ _, v, rfl, (ho.only (grownBy_putObj' W' D (.deferred none)) (by
      cases hk : v.ownBlock with
      | none => exact .inl rfl
      | some j => exact .inr (fun e => by obtain ⟨_, cur, h2⟩ := own_cells ho hk; cases e; rw [hK] at h2; cases h2))).more (by omega), hB.trans (belowK_b (w := w) (Nat.le_refl _) W' D _ _ (by omega) hK rfl rfl)⟩
  case stop =>
    rintro D c k W' _ _ _ h _
    exact h.elim
theorem damagedBlocks_any (ao : Option Addr) (cap : Nat) (xs : List Int) (w : World) (hr : Rd w ao xs.length xs) (hn : xs.length ≤ 1048576) (hcap : xs.length ≤ cap) (hcap2 : cap ≤ 9223372036854775807) :
    Calls Try.prog 16 #[.slice ao xs.length cap] w (Makes2 2 w (damagedBlocks xs).1 (damagedBlocks xs).2) := by
  have hcall := fun W h => isBytes_any ao xs.length cap xs W h (by omega)
  rcases hb : isBytes xs with _ | _
  · rw [show damagedBlocks xs = ([], 2) from by unfold damagedBlocks; rw [hb]; rfl]
    rw [hb] at hcall
    have HR := Lib.hid hr; clear hr
    generalize xs.length = n at hcall HR
    go_enter Try.func16, Try.ntmps16
    go_wp2_with fail
    refine (hcall _ HR.out).mono ?_
    rintro e w1 ⟨rfl, rfl⟩
    go_wp2
    go_ret2
    exact ⟨_, rfl, Own.nil_, Below.refl _ _⟩
  · rw [show damagedBlocks xs = (dmgTo xs (slicesOf xs.length), 0) from by unfold damagedBlocks; rw [if_neg (by rw [hb]; simp), dmgTo_all]]
    exact damaged_in ao xs.length cap xs w hr hb hcap hcap2
end Go.Proofs.Ytckaknaeddiphaa
