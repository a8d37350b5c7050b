/-
  slices.SortStableFunc of demands: symMerge.
-/
import Derived.Test.YtbbodgeoenjdkaaSm3
import Derived.Test.YtbbodgeoenjdkaaSm4
namespace Go.Proofs.Ytbbodgeoenjdkaa
open Go.RowKit

set_option maxRecDepth 100000 in
set_option maxHeartbeats 8000000 in
set_option linter.unusedSimpArgs false in
set_option linter.unusedVariables false in
theorem merge_one (w0 w : World) (base g N cap : Nat) (f : Nat → Dm) (h : SoAt w0 w base g N cap f) (hN : N ≤ 1048576) (a b : Nat) (h1 : a + 1 < b) (h2 : b ≤ N) (hs : SdF f (a + 1) b) :
    Calls Try.prog 87 #[.slice (some ⟨g, 0, none⟩) N cap, .int .i64 (a : Int), .int .i64 ((a + 1 : Nat) : Int), .int .i64 (b : Int), .func (.func 57) #[] #[]] w fun e w' => e = .returned (.tuple #[]) ∧ ∃ k, SoAt w0 w' base g N cap k ∧ MgF N f k a b := by
  have H := Lib.hid h; clear h
  have HC := Lib.hid (fun x y W => before_any x y W)
  have HS := Lib.hid hs; clear hs
  obtain ⟨m, hm⟩ : ∃ m, m = a + 1 := ⟨_, rfl⟩
  rw [← hm] at h1 HS ⊢
  have e0 : (m : Int) - (a : Int) = 1 := by omega
  have HM := Lib.hid hm
  clear hm
  go_enter Try.func87, Try.ntmps87
  go_upto_region 3 with fail
  clear e0
  go_loopw [10, 11] (fun s10 s11 wr => ∃ (i j : Nat), s10 = .int .i64 (i : Int) ∧ s11 = .int .i64 (j : Int) ∧ m ≤ i ∧ i ≤ j ∧ j ≤ b ∧ Hid (SoAt w0 wr base g N cap f) ∧ Hid (∀ x, m ≤ x → x < i → (f x).every < (f a).every) ∧ Hid (∀ x, j ≤ x → x < b → (f a).every ≤ (f x).every)) (fun s10 s11 _ => (intOf s11).toNat - (intOf s10).toNat)
  case atStart => exact ⟨m, b, rfl, rfl, Nat.le_refl _, by omega, Nat.le_refl _, H.out, fun x h1 h2 => absurd h1 (by omega), fun x h1 h2 => absurd h1 (by omega)⟩
  case round =>
    clear H
    obtain ⟨i, j, rfl, rfl, hmi0, hij, hjb, H, HLO, HHI⟩ := hrel
    have hma : a < m := by have := HM.out; omega
    by_cases hlt : i < j
    · have hlti : (i : Int) < (j : Int) := by omega
      obtain ⟨md, hmd⟩ : ∃ md, md = (i + j) / 2 := ⟨_, rfl⟩
      have hm1 : i ≤ md := by omega
      have hm2 : md < j := by omega
      have hw1 : IntKind.i64.wrap ((i : Int) + (j : Int)) = (i : Int) + (j : Int) := by rw [IntKind.wrap_i64]; omega
      have hmi : ((i : Int) + (j : Int)) / 2 = (md : Int) := by omega
      have hmi2 : 0 ≤ (i : Int) + (j : Int) := by omega
      have hu1 := run_underlying Try.underlying116
      have hu2 := Try.underlying116
      have hw2 : IntKind.u64.wrap ((i : Int) + (j : Int)) = (i : Int) + (j : Int) := by simp only [IntKind.wrap, IntKind.signed, IntKind.bits]; simp; omega
      clear hmd
      go_upto_region 5 with fail
      clear hw1 hmi hmi2 hu1 hu2 hw2
      have b0 : (0 : Int) ≤ (md : Int) := by omega
      have b1 : (md : Int) < (N : Int) := by omega
      have b2 : (0 : Int) ≤ (a : Int) := by omega
      have b3 : (a : Int) < (N : Int) := by omega
      have HUP := Lib.hid (fun (h : (f md).every < (f a).every) x (x1 : m ≤ x) (x2 : x < md + 1) => (Int.lt_of_le_of_lt (HS.out x md (by have := HM.out; omega) (by omega) (by omega)) h : (f x).every < (f a).every))
      have HDN := Lib.hid (fun (h : ¬ (f md).every < (f a).every) x (x1 : md ≤ x) (x2 : x < b) => (Int.le_trans (Int.not_lt.1 h) (HS.out md x (by have := HM.out; omega) x1 x2) : (f a).every ≤ (f x).every))
      have i1 := H.out.in_ (i := md) (by omega)
      have i2 := H.out.in_ (i := a) (by omega)
      have HSQ := Lib.hid (fun W (hb : Below wr.heap.size wr W) => H.out.still hb)
      have HC2 := Lib.hid (HC.out (f md) (f a))
      have HSS := Lib.hid (fun W (hb : Below wr.heap.size wr W) => And.intro (i1.below hb i1.lt).all (i2.below hb i2.lt).all)
      obtain ⟨z, hz⟩ : ∃ z, cmpI (f md).every (f a).every = z := ⟨_, rfl⟩
      rw [hz] at HC2
      have hzk := cmpI_neg (a := (f md).every) (b := (f a).every)
      rw [hz] at hzk
      have HZK := Lib.hid hzk
      clear hz hzk i1 i2 H
      generalize f md = x at HC2 HSS
      generalize f a = y at HC2 HSS
      obtain ⟨x0, x1, x2⟩ := x
      obtain ⟨y0, y1, y2⟩ := y
      unfold dmVal at HC2
      dsimp only at HC2 HSS
      by_cases hz : z < 0
      · have HF := Lib.hid (HUP.out (HZK.out.1 hz))
        clear HUP HDN HZK
        go_wp2
        go_region_held3 (fun w' => (w'.cell? ⟨g, md * 3, none⟩ = some (.int .i64 x0) ∧ w'.cell? ⟨g, md * 3 + 1, none⟩ = some (.int .i64 x1) ∧ w'.cell? ⟨g, md * 3 + 2, none⟩ = some (.int .i64 x2)) ∧ (w'.cell? ⟨g, a * 3, none⟩ = some (.int .i64 y0) ∧ w'.cell? ⟨g, a * 3 + 1, none⟩ = some (.int .i64 y1) ∧ w'.cell? ⟨g, a * 3 + 2, none⟩ = some (.int .i64 y2)))
          (first | exact HSS.out _ (Below.refl _ _).drew | exact HSS.out _ B5.out)
          (first
            | (go_at_call 57; (refine (HC2.out _).mono ?_); rintro e w5 ⟨rfl, b5⟩; have B5 := Lib.hid (below_two (Below.refl wr.heap.size wr).drew b5); clear b5))
        go_wp2
        go_roundw
        case rel => exact ⟨md + 1, j, by go_num, rfl, by omega, by omega, hjb, HSQ.out _ B5.out, HF.out, HHI.out⟩
        case measure => simp [intOf]; omega
      · have HF := Lib.hid (HDN.out (fun h => hz (HZK.out.2 h)))
        clear HUP HDN HZK
        go_wp2
        go_region_held3 (fun w' => (w'.cell? ⟨g, md * 3, none⟩ = some (.int .i64 x0) ∧ w'.cell? ⟨g, md * 3 + 1, none⟩ = some (.int .i64 x1) ∧ w'.cell? ⟨g, md * 3 + 2, none⟩ = some (.int .i64 x2)) ∧ (w'.cell? ⟨g, a * 3, none⟩ = some (.int .i64 y0) ∧ w'.cell? ⟨g, a * 3 + 1, none⟩ = some (.int .i64 y1) ∧ w'.cell? ⟨g, a * 3 + 2, none⟩ = some (.int .i64 y2)))
          (first | exact HSS.out _ (Below.refl _ _).drew | exact HSS.out _ B5.out)
          (first
            | (go_at_call 57; (refine (HC2.out _).mono ?_); rintro e w5 ⟨rfl, b5⟩; have B5 := Lib.hid (below_two (Below.refl wr.heap.size wr).drew b5); clear b5))
        go_wp2
        go_roundw
        case rel => exact ⟨i, md, rfl, rfl, by omega, by omega, by omega, HSQ.out _ B5.out, HLO.out, HF.out⟩
        case measure => simp [intOf]; omega
    · have hij2 : i = j := by omega
      subst hij2
      have HMG := Lib.hid (show MgF N f (rot f a (a + 1) i) a b from mg_first (by have := HM.out; omega) hjb h2 (by have := HS.out; rwa [HM.out] at this) (by have := HLO.out; rwa [HM.out] at this) HHI.out)
      clear HLO HHI
      go_wp2
      go_loopw [13] (fun s13 wr => ∃ k : Nat, s13 = .int .i64 (k : Int) ∧ a ≤ k ∧ k + 1 ≤ i ∧ Hid (SoAt w0 wr base g N cap (rot f a (a + 1) (k + 1)))) (fun s13 _ => i - (intOf s13).toNat)
      case atStart => exact ⟨a, rfl, Nat.le_refl _, by omega, by rw [rot_none2 f a (a + 1) (by omega)]; exact H.out⟩
      case round =>
        clear H
        obtain ⟨k, rfl, hk1, hk2, H⟩ := hrel
        by_cases hlt2 : k + 1 < i
        · have HN := Lib.hid (H.out.swap (i := k) (j := k + 1) (by omega) (by omega))
          rw [rot_up f hk1] at HN
          have i1 := H.out.in_ (i := k) (by omega)
          have i2 := H.out.in_ (i := k + 1) (by omega)
          have hfz := H.out.fz
          generalize rot f a (a + 1) (k + 1) k = x at HN i1
          generalize rot f a (a + 1) (k + 1) (k + 1) = y at HN i2
          obtain ⟨a1, a2, a3⟩ := i1
          obtain ⟨b1, b2, b3⟩ := i2
          obtain ⟨l, hl⟩ : ∃ l, l = k + 1 := ⟨_, rfl⟩
          have HL := Lib.hid hl
          have w1 : IntKind.i64.wrap ((k : Int) + 1) = (l : Int) := by rw [IntKind.wrap_i64]; omega
          have l1 : k < N := by omega
          have l2 : l < N := by omega
          have l0 : k < l := by omega
          have l3 : (k : Int) < (i : Int) - 1 := by omega
          rw [← hl] at b1 b2 b3 HN
          have hki : k < i := by omega
          rw [show k + 2 = l + 1 from by omega] at HN
          have HLT2 := Lib.hid hlt2
          clear hl hlt2
          go_wp2
          go_region
          go_wp2
          go_roundw
          case rel => exact ⟨l, rfl, by have := HL.out; omega, by have := HL.out; have := HLT2.out; omega, HN.out.still (Below.drew (Below.refl _ _))⟩
          case measure => simp [intOf]; omega
        · have hke : k + 1 = i := by omega
          have HF := Lib.hid H.out
          rw [hke] at HF
          have l3 : ¬ (k : Int) < (i : Int) - 1 := by omega
          clear hke hlt2
          go_wp2
          (try simp only [Exit.inBlock, Exit.then]); refine bodyPost_ret (results_none rfl _ _ _) rfl ?_
          exact ⟨rfl, _, HF.out, HMG.out⟩
set_option maxRecDepth 100000 in
set_option maxHeartbeats 8000000 in
set_option linter.unusedSimpArgs false in
set_option linter.unusedVariables false in
theorem merge_last (w0 w : World) (base g N cap : Nat) (f : Nat → Dm) (h : SoAt w0 w base g N cap f) (hN : N ≤ 1048576) (a m : Nat) (h1 : a + 1 < m) (h2 : m + 1 ≤ N) (hs : SdF f a m) :
    Calls Try.prog 87 #[.slice (some ⟨g, 0, none⟩) N cap, .int .i64 (a : Int), .int .i64 (m : Int), .int .i64 ((m + 1 : Nat) : Int), .func (.func 57) #[] #[]] w fun e w' => e = .returned (.tuple #[]) ∧ ∃ k, SoAt w0 w' base g N cap k ∧ MgF N f k a (m + 1) := by
  have H := Lib.hid h; clear h
  have HC := Lib.hid (fun x y W => before_any x y W)
  have HS := Lib.hid hs; clear hs
  have e0 : (((m : Int) - (a : Int)) == 1) = false := by simp; omega
  have e1 : ((m + 1 : Nat) : Int) - (m : Int) = 1 := by omega
  generalize hbm : m + 1 = b at e1
  have HBM := Lib.hid hbm
  have hbN : b ≤ N := by omega
  clear hbm
  go_enter Try.func87, Try.ntmps87
  go_upto_region 15 with fail
  clear e0 e1
  go_loopw [14, 15] (fun s14 s15 wr => ∃ (i j : Nat), s14 = .int .i64 (i : Int) ∧ s15 = .int .i64 (j : Int) ∧ a ≤ i ∧ i ≤ j ∧ j ≤ m ∧ Hid (SoAt w0 wr base g N cap f) ∧ Hid (∀ x, a ≤ x → x < i → (f x).every ≤ (f m).every) ∧ Hid (∀ x, j ≤ x → x < m → (f m).every < (f x).every)) (fun s14 s15 _ => (intOf s15).toNat - (intOf s14).toNat)
  case atStart => exact ⟨a, m, rfl, rfl, Nat.le_refl _, by omega, Nat.le_refl _, H.out, fun x h1 h2 => absurd h1 (by omega), fun x h1 h2 => absurd h1 (by omega)⟩
  case round =>
    clear H
    obtain ⟨i, j, rfl, rfl, hai, hij, hjm, H, HLO, HHI⟩ := hrel
    by_cases hlt : i < j
    · have hlti : (i : Int) < (j : Int) := by omega
      obtain ⟨md, hmd⟩ : ∃ md, md = (i + j) / 2 := ⟨_, rfl⟩
      have hm1 : i ≤ md := by omega
      have hm2 : md < j := by omega
      have hw1 : IntKind.i64.wrap ((i : Int) + (j : Int)) = (i : Int) + (j : Int) := by rw [IntKind.wrap_i64]; omega
      have hmi : ((i : Int) + (j : Int)) / 2 = (md : Int) := by omega
      have hmi2 : 0 ≤ (i : Int) + (j : Int) := by omega
      have hu1 := run_underlying Try.underlying116
      have hu2 := Try.underlying116
      have hw2 : IntKind.u64.wrap ((i : Int) + (j : Int)) = (i : Int) + (j : Int) := by simp only [IntKind.wrap, IntKind.signed, IntKind.bits]; simp; omega
      clear hmd
      go_upto_region 17 with fail
      clear hw1 hmi hmi2 hu1 hu2 hw2
      have b0 : (0 : Int) ≤ (md : Int) := by omega
      have b1 : (md : Int) < (N : Int) := by omega
      have b2 : (0 : Int) ≤ (m : Int) := by omega
      have b3 : (m : Int) < (N : Int) := by omega
      have HUP := Lib.hid (fun (h : ¬ (f m).every < (f md).every) x (x1 : a ≤ x) (x2 : x < md + 1) => (Int.le_trans (HS.out x md x1 (by omega) (by omega)) (Int.not_lt.1 h) : (f x).every ≤ (f m).every))
      have HDN := Lib.hid (fun (h : (f m).every < (f md).every) x (x1 : md ≤ x) (x2 : x < m) => (Int.lt_of_lt_of_le h (HS.out md x (by omega) x1 x2) : (f m).every < (f x).every))
      have i1 := H.out.in_ (i := m) (by omega)
      have i2 := H.out.in_ (i := md) (by omega)
      have HSQ := Lib.hid (fun W (hb : Below wr.heap.size wr W) => H.out.still hb)
      have HC2 := Lib.hid (HC.out (f m) (f md))
      have HSS := Lib.hid (fun W (hb : Below wr.heap.size wr W) => And.intro (i1.below hb i1.lt).all (i2.below hb i2.lt).all)
      obtain ⟨z, hz⟩ : ∃ z, cmpI (f m).every (f md).every = z := ⟨_, rfl⟩
      rw [hz] at HC2
      have hzk := cmpI_neg (a := (f m).every) (b := (f md).every)
      rw [hz] at hzk
      have HZK := Lib.hid hzk
      clear hz hzk i1 i2 H
      generalize f m = x at HC2 HSS
      generalize f md = y at HC2 HSS
      obtain ⟨x0, x1, x2⟩ := x
      obtain ⟨y0, y1, y2⟩ := y
      unfold dmVal at HC2
      dsimp only at HC2 HSS
      by_cases hz : z < 0
      · have HF := Lib.hid (HDN.out (HZK.out.1 hz))
        have hdz : decide (z < 0) = true := decide_eq_true hz
        have hnz : (!decide (z < 0)) = false := by rw [hdz]; rfl
        clear HUP HDN HZK
        go_wp2
        go_region_held3 (fun w' => (w'.cell? ⟨g, m * 3, none⟩ = some (.int .i64 x0) ∧ w'.cell? ⟨g, m * 3 + 1, none⟩ = some (.int .i64 x1) ∧ w'.cell? ⟨g, m * 3 + 2, none⟩ = some (.int .i64 x2)) ∧ (w'.cell? ⟨g, md * 3, none⟩ = some (.int .i64 y0) ∧ w'.cell? ⟨g, md * 3 + 1, none⟩ = some (.int .i64 y1) ∧ w'.cell? ⟨g, md * 3 + 2, none⟩ = some (.int .i64 y2)))
          (first | exact HSS.out _ (Below.refl _ _).drew | exact HSS.out _ B5.out)
          (first
            | (go_at_call 57; (refine (HC2.out _).mono ?_); rintro e w5 ⟨rfl, b5⟩; have B5 := Lib.hid (below_two (Below.refl wr.heap.size wr).drew b5); clear b5))
        go_wp2
        go_roundw
        case rel => exact ⟨i, md, rfl, rfl, by omega, by omega, by omega, HSQ.out _ B5.out, HLO.out, HF.out⟩
        case measure => simp [intOf]; omega
      · have HF := Lib.hid (HUP.out (fun h => hz (HZK.out.2 h)))
        have hdz : decide (z < 0) = false := decide_eq_false hz
        have hnz : (!decide (z < 0)) = true := by rw [hdz]; rfl
        clear HUP HDN HZK
        go_wp2
        go_region_held3 (fun w' => (w'.cell? ⟨g, m * 3, none⟩ = some (.int .i64 x0) ∧ w'.cell? ⟨g, m * 3 + 1, none⟩ = some (.int .i64 x1) ∧ w'.cell? ⟨g, m * 3 + 2, none⟩ = some (.int .i64 x2)) ∧ (w'.cell? ⟨g, md * 3, none⟩ = some (.int .i64 y0) ∧ w'.cell? ⟨g, md * 3 + 1, none⟩ = some (.int .i64 y1) ∧ w'.cell? ⟨g, md * 3 + 2, none⟩ = some (.int .i64 y2)))
          (first | exact HSS.out _ (Below.refl _ _).drew | exact HSS.out _ B5.out)
          (first
            | (go_at_call 57; (refine (HC2.out _).mono ?_); rintro e w5 ⟨rfl, b5⟩; have B5 := Lib.hid (below_two (Below.refl wr.heap.size wr).drew b5); clear b5))
        go_wp2
        go_roundw
        case rel => exact ⟨md + 1, j, by go_num, rfl, by omega, by omega, hjm, HSQ.out _ B5.out, HF.out, HHI.out⟩
        case measure => simp [intOf]; omega
    · have hij2 : i = j := by omega
      subst hij2
      have HMG := Lib.hid (show MgF N f (rot f i m (m + 1)) a (m + 1) from mg_insert hai hjm h2 HS.out HHI.out (by
        by_cases e : i = a
        · exact .inl e
        · exact .inr (HLO.out (i - 1) (by omega) (by omega))))
      clear HLO HHI
      go_wp2
      go_loopw [17] (fun s17 wr => ∃ k : Nat, s17 = .int .i64 (k : Int) ∧ i ≤ k ∧ k ≤ m ∧ Hid (SoAt w0 wr base g N cap (rot f k m (m + 1)))) (fun s17 _ => (intOf s17).toNat)
      case atStart => exact ⟨m, rfl, hjm, Nat.le_refl _, by rw [rot_none f m (m + 1) (by omega)]; exact H.out⟩
      case round =>
        clear H
        obtain ⟨k, rfl, hk1, hk2, H⟩ := hrel
        by_cases hlt2 : i < k
        · obtain ⟨l, hl⟩ : ∃ l, k = l + 1 := ⟨k - 1, by omega⟩
          have HN := Lib.hid (H.out.swap (i := k) (j := l) (by omega) (by omega))
          have hsw : swp (rot f k m (m + 1)) k l = rot f l m (m + 1) := by rw [hl]; exact rot_down f (by omega)
          rw [hsw] at HN
          clear hsw
          have i1 := H.out.in_ (i := k) (by omega)
          have i2 := H.out.in_ (i := l) (by omega)
          have hfz := H.out.fz
          generalize rot f k m (m + 1) k = x at HN i1
          generalize rot f k m (m + 1) l = y at HN i2
          obtain ⟨a1, a2, a3⟩ := i1
          obtain ⟨b1, b2, b3⟩ := i2
          have HL := Lib.hid hl
          have w1 : IntKind.i64.wrap ((k : Int) - 1) = (l : Int) := by rw [IntKind.wrap_i64]; omega
          have w2 : IntKind.i64.wrap (l : Int) = (l : Int) := by rw [IntKind.wrap_i64]; omega
          have w3 : (k : Int) - 1 = (l : Int) := by omega
          have l1 : k < N := by omega
          have l2 : l < N := by omega
          have l0 : l < k := by omega
          have l3 : (i : Int) < (k : Int) := by omega
          clear hl hlt2
          go_wp2
          go_region
          go_wp2
          go_roundw
          case rel => exact ⟨l, rfl, by have := HL.out; omega, by omega, HN.out.still (Below.drew (Below.refl _ _))⟩
          case measure => simp [intOf]; omega
        · have hke : k = i := by omega
          subst hke
          clear hlt2
          have HF := Lib.hid (show MgF N f (rot f k m (m + 1)) a b from (by
            have h := HMG.out
            have e := HBM.out
            generalize rot f k m (m + 1) = r at h ⊢
            rw [e] at h
            exact h))
          go_wp2
          (try simp only [Exit.inBlock, Exit.then]); refine bodyPost_ret (results_none rfl _ _ _) rfl ?_
          exact ⟨rfl, _, H.out, HF.out⟩
end Go.Proofs.Ytbbodgeoenjdkaa
