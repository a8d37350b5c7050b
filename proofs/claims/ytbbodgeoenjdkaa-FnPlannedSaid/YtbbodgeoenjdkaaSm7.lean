/-
  slices.SortStableFunc of demands: symMerge, the general step where the middle lies behind.
-/
import Derived.Test.YtbbodgeoenjdkaaSm3
import Derived.Test.YtbbodgeoenjdkaaSm5
import Derived.Test.YtbbodgeoenjdkaaSm4
namespace Go.Proofs.Ytbbodgeoenjdkaa
open Go.RowKit

set_option maxRecDepth 100000 in
set_option maxHeartbeats 8000000 in
set_option linter.unusedSimpArgs false in
set_option linter.unusedVariables false in
theorem merge_dn (w0 w : World) (base g N cap : Nat) (f : Nat → Dm) (h : SoAt w0 w base g N cap f) (hN : N ≤ 1048576) (a m b : Nat) (h1 : a + 1 < m) (h2 : m + 1 < b) (h3 : b ≤ N) (hs1 : SdF f a m) (hs2 : SdF f m b) (D : Nat) (hD : b - a = D) (hi : (∀ (a m b : Nat) (f : Nat → Dm) (w : World), b - a < D → a < m → m < b → b ≤ N → SdF f a m → SdF f m b → SoAt w0 w base g N cap f → Calls Try.prog 87 #[.slice (some ⟨g, 0, none⟩) N cap, .int .i64 (a : Int), .int .i64 (m : Int), .int .i64 (b : Int), .func (.func 57) #[] #[]] w fun e w' => e = .returned (.tuple #[]) ∧ ∃ k, SoAt w0 w' base g N cap k ∧ MgF N f k a b)) (hcase : m ≤ (a + b) / 2) :
    Calls Try.prog 87 #[.slice (some ⟨g, 0, none⟩) N cap, .int .i64 (a : Int), .int .i64 (m : Int), .int .i64 (b : Int), .func (.func 57) #[] #[]] w fun e w' => e = .returned (.tuple #[]) ∧ ∃ k, SoAt w0 w' base g N cap k ∧ MgF N f k a b := by
  subst hD
  have H := Lib.hid h; clear h
  have HC := Lib.hid (fun x y W => before_any x y W)
  have HS1 := Lib.hid hs1; have HS2 := Lib.hid hs2; have HI := Lib.hid hi
  clear hs1 hs2 hi
  have e0 : (((m : Int) - (a : Int)) == 1) = false := by simp; omega
  have e1 : (((b : Int) - (m : Int)) == 1) = false := by simp; omega
  obtain ⟨mid, hmd⟩ : ∃ mid, mid = (a + b) / 2 := ⟨_, rfl⟩
  have hm1 : a ≤ mid := by omega
  have hm2 : mid < b := by omega
  have hw1 : IntKind.i64.wrap ((a : Int) + (b : Int)) = (a : Int) + (b : Int) := by rw [IntKind.wrap_i64]; omega
  have hmi : ((a : Int) + (b : Int)) / 2 = (mid : Int) := by omega
  have hmi2 : 0 ≤ (a : Int) + (b : Int) := by omega
  have hu1 := run_underlying Try.underlying116
  have hu2 := Try.underlying116
  have hw2 : IntKind.u64.wrap ((a : Int) + (b : Int)) = (a : Int) + (b : Int) := by simp only [IntKind.wrap, IntKind.signed, IntKind.bits]; simp; omega
  have HBD := Lib.hid (show BdF a m b mid a m from ⟨by omega, by omega, hmd, .inr ⟨by omega, rfl, rfl⟩⟩)
  obtain ⟨nn, hnn⟩ : ∃ nn, nn = mid + m := ⟨_, rfl⟩
  obtain ⟨pp, hpp⟩ : ∃ pp, pp = mid + m - 1 := ⟨_, rfl⟩
  have HNN := Lib.hid hnn
  have HPP := Lib.hid (show pp + 1 = mid + m by omega)
  have en1 : (mid : Int) + (m : Int) = (nn : Int) := by omega
  have en2 : (nn : Int) - 1 = (pp : Int) := by omega
  have en3 : (nn : Int) ≤ 2097152 := by omega
  have hcs : ¬ (mid : Int) < (m : Int) := by omega
  have hcn : m ≤ mid := by omega
  have hmid1 : a < mid := by omega
  have hmid2 : mid < b := by omega
  clear hmd hnn hpp hcase
  go_enter Try.func87, Try.ntmps87
  go_upto_region 25 with fail
  clear hw1 hmi hmi2 hu1 hu2 hw2
  go_upto_region 33 with fail
  clear e0 e1 en1 en2 en3 hcs
  go_loopw [20, 21] (fun s20 s21 wr => ∃ (s r : Nat), s20 = .int .i64 (s : Int) ∧ s21 = .int .i64 (r : Int) ∧ s ≤ r ∧ r ≤ mid ∧ r ≤ m ∧ a ≤ s ∧ Hid (SoAt w0 wr base g N cap f) ∧ Hid (SeF f (mid + m) a m s r)) (fun s20 s21 _ => (intOf s21).toNat - (intOf s20).toNat)
  case atStart => exact ⟨a, m, rfl, rfl, by have := HBD.out.facts; omega, by have := HBD.out.facts; omega, by have := HBD.out.facts; omega, by have := HBD.out.facts; omega, H.out, SeF.start HBD.out⟩
  case round =>
    clear H
    obtain ⟨s, r, rfl, rfl, hsr, hrm, hrm2, has, H, HSE⟩ := hrel
    by_cases hlt : s < r
    · have hlti : (s : Int) < (r : Int) := by omega
      obtain ⟨md, hmd⟩ : ∃ md, md = (s + r) / 2 := ⟨_, rfl⟩
      have hm1 : s ≤ md := by omega
      have hm2 : md < r := by omega
      have hw1 : IntKind.i64.wrap ((s : Int) + (r : Int)) = (s : Int) + (r : Int) := by rw [IntKind.wrap_i64]; omega
      have hmi : ((s : Int) + (r : Int)) / 2 = (md : Int) := by omega
      have hmi2 : 0 ≤ (s : Int) + (r : Int) := by omega
      have hu1 := run_underlying Try.underlying116
      have hu2 := Try.underlying116
      have hw2 : IntKind.u64.wrap ((s : Int) + (r : Int)) = (s : Int) + (r : Int) := by simp only [IntKind.wrap, IntKind.signed, IntKind.bits]; simp; omega
      clear hmd
      obtain ⟨q, hq⟩ : ∃ q, q = mid + m - 1 - md := ⟨_, rfl⟩
      have hqm := HBD.out.facts.2.2.2.2 md (by have := HSE.out.l; omega) (by have := HSE.out.h; omega)
      rw [← hq] at hqm
      have HUP := Lib.hid (fun (h : ¬ (f q).every < (f md).every) => HSE.out.up HBD.out HS1.out HS2.out hm1 hm2 (by rw [← hq]; omega))
      have HDN := Lib.hid (fun (h : (f q).every < (f md).every) => HSE.out.down HBD.out HS1.out HS2.out hm1 hm2 (by rw [← hq]; exact h))
      have wq : IntKind.i64.wrap ((pp : Int) - (md : Int)) = (q : Int) := by have := HPP.out; rw [IntKind.wrap_i64]; omega
      have wq2 : (pp : Int) - (md : Int) = (q : Int) := by have := HPP.out; omega
      have wq3 : IntKind.i64.wrap (q : Int) = (q : Int) := by rw [IntKind.wrap_i64]; omega
      have b0 : (0 : Int) ≤ (md : Int) := by omega
      have b1 : (md : Int) < (N : Int) := by omega
      have b2 : (0 : Int) ≤ (q : Int) := by omega
      have b3 : (q : Int) < (N : Int) := by omega
      obtain ⟨hqm1, hqm2⟩ := hqm
      have hmdN : md < N := by omega
      have hqN : q < N := by omega
      clear hq
      go_upto_region 35 with fail
      clear hw1 hmi hmi2 hu1 hu2 hw2
      have i1 := H.out.in_ (i := q) (by omega)
      have i2 := H.out.in_ (i := md) (by omega)
      have HSQ := Lib.hid (fun W (hb : Below wr.heap.size wr W) => H.out.still hb)
      have HC2 := Lib.hid (HC.out (f q) (f md))
      have HSS := Lib.hid (fun W (hb : Below wr.heap.size wr W) => And.intro (i1.below hb i1.lt).all (i2.below hb i2.lt).all)
      obtain ⟨z, hz⟩ : ∃ z, cmpI (f q).every (f md).every = z := ⟨_, rfl⟩
      rw [hz] at HC2
      have hzk := cmpI_neg (a := (f q).every) (b := (f md).every)
      rw [hz] at hzk
      have HZK := Lib.hid hzk
      clear hz hzk i1 i2 H
      generalize f q = x at HC2 HSS
      generalize f md = y at HC2 HSS
      obtain ⟨x0, x1, x2⟩ := x
      obtain ⟨y0, y1, y2⟩ := y
      unfold dmVal at HC2
      dsimp only at HC2 HSS
      by_cases hz : z < 0
      · have HF := Lib.hid (HDN.out (HZK.out.1 hz))
        have hdz : decide (z < 0) = true := decide_eq_true hz
        have hnz : (!decide (z < 0)) = false := by rw [hdz]; rfl
        clear HUP HDN HZK
        go_wp2
        go_region_held3 (fun w' => (w'.cell? ⟨g, q * 3, none⟩ = some (.int .i64 x0) ∧ w'.cell? ⟨g, q * 3 + 1, none⟩ = some (.int .i64 x1) ∧ w'.cell? ⟨g, q * 3 + 2, none⟩ = some (.int .i64 x2)) ∧ (w'.cell? ⟨g, md * 3, none⟩ = some (.int .i64 y0) ∧ w'.cell? ⟨g, md * 3 + 1, none⟩ = some (.int .i64 y1) ∧ w'.cell? ⟨g, md * 3 + 2, none⟩ = some (.int .i64 y2)))
          (first | exact HSS.out _ (Below.refl _ _).drew | exact HSS.out _ B5.out)
          (first
            | (go_at_call 57; (refine (HC2.out _).mono ?_); rintro e w5 ⟨rfl, b5⟩; have B5 := Lib.hid (below_two (Below.refl wr.heap.size wr).drew b5); clear b5))
        go_wp2
        go_roundw
        case rel => exact ⟨s, md, rfl, rfl, by omega, by omega, by omega, has, HSQ.out _ B5.out, HF.out⟩
        case measure => simp [intOf]; omega
      · have HF := Lib.hid (HUP.out (fun h => hz (HZK.out.2 h)))
        have hdz : decide (z < 0) = false := decide_eq_false hz
        have hnz : (!decide (z < 0)) = true := by rw [hdz]; rfl
        clear HUP HDN HZK
        go_wp2
        go_region_held3 (fun w' => (w'.cell? ⟨g, q * 3, none⟩ = some (.int .i64 x0) ∧ w'.cell? ⟨g, q * 3 + 1, none⟩ = some (.int .i64 x1) ∧ w'.cell? ⟨g, q * 3 + 2, none⟩ = some (.int .i64 x2)) ∧ (w'.cell? ⟨g, md * 3, none⟩ = some (.int .i64 y0) ∧ w'.cell? ⟨g, md * 3 + 1, none⟩ = some (.int .i64 y1) ∧ w'.cell? ⟨g, md * 3 + 2, none⟩ = some (.int .i64 y2)))
          (first | exact HSS.out _ (Below.refl _ _).drew | exact HSS.out _ B5.out)
          (first
            | (go_at_call 57; (refine (HC2.out _).mono ?_); rintro e w5 ⟨rfl, b5⟩; have B5 := Lib.hid (below_two (Below.refl wr.heap.size wr).drew b5); clear b5))
        go_wp2
        go_roundw
        case rel => exact ⟨md + 1, r, by go_num, rfl, by omega, hrm, hrm2, by omega, HSQ.out _ B5.out, HF.out⟩
        case measure => simp [intOf]; omega
    · have hsr2 : s = r := by omega
      subst hsr2
      have HCUT0 := cut_of HBD.out HS1.out HS2.out HSE.out
      obtain ⟨en, hen⟩ : ∃ en, en = mid + m - s := ⟨_, rfl⟩
      rw [← hen] at HCUT0
      have hsd := rot_sd HCUT0 HS1.out HS2.out
      rw [show s + (en - m) = mid from by omega] at hsd
      have HSD := Lib.hid hsd
      have HCUT := Lib.hid HCUT0
      have we : (nn : Int) - (s : Int) = (en : Int) := by have := HNN.out; omega
      have hen1 : en + s = mid + m := by omega
      have hen2 : m ≤ en := HCUT0.e0
      have hen3 : en ≤ b := HCUT0.e1
      clear hen hsd HCUT0 HSE hlt
      go_upto_region 39 with fail
      clear we
      clear HBD HNN HPP HC
      by_cases k1 : s < m
      · by_cases k3 : a < s
        · by_cases k4 : en < b
          · have HROT := Lib.hid (fun W (hW : SoAt w0 W base g N cap f) => rotate_any w0 W base g N cap f hW hN s m en (by omega) (by omega) (by omega) (.func (.func 57) #[] #[]))
            have HLF := Lib.hid (fun W (hW : SoAt w0 W base g N cap (rot f s m en)) => HI.out a s mid (rot f s m en) W (by omega) (by omega) (by omega) (by omega) HSD.out.1 HSD.out.2.1 hW)
            have HRT := Lib.hid (fun k W (hm : MgF N (rot f s m en) k a mid) (hW : SoAt w0 W base g N cap k) => HI.out mid en b k W (by omega) (by omega) (by omega) h3 (fun i j i1 i2 i3 => by rw [hm.out i (by omega), hm.out j (by omega)]; exact HSD.out.2.2.1 i j i1 i2 i3) (fun i j i1 i2 i3 => by rw [hm.out i (by omega), hm.out j (by omega)]; exact HSD.out.2.2.2 i j i1 i2 i3) hW)
            have HFIN := Lib.hid (fun k h (m1 : MgF N (rot f s m en) k a mid) (m2 : MgF N k h mid b) => mg_halves (s := s) (e := en) h3 HCUT.out HS1.out HS2.out (by rw [show s + (en - m) = mid from by omega]; exact m1) (by rw [show s + (en - m) = mid from by omega]; exact m2))
            have p1 : (s : Int) < (m : Int) := by omega
            have p1d : decide ((s : Int) < (m : Int)) = true := decide_eq_true p1
            have p2 : (m : Int) < (en : Int) := by omega
            have p2d : decide ((m : Int) < (en : Int)) = true := decide_eq_true p2
            have p3 : (a : Int) < (s : Int) := by omega
            have p3d : decide ((a : Int) < (s : Int)) = true := decide_eq_true p3
            have p4 : (s : Int) < (mid : Int) := by omega
            have p4d : decide ((s : Int) < (mid : Int)) = true := decide_eq_true p4
            have p5 : (mid : Int) < (en : Int) := by omega
            have p5d : decide ((mid : Int) < (en : Int)) = true := decide_eq_true p5
            have p6 : (en : Int) < (b : Int) := by omega
            have p6d : decide ((en : Int) < (b : Int)) = true := decide_eq_true p6
            clear HSD HCUT HS1 HS2 HI
            go_wp2_with fail
            refine (HROT.out _ H.out).mono ?_
            rintro e w6 ⟨rfl, s6⟩
            have H6 := Lib.hid s6
            clear s6 H HROT
            go_wp2_with fail
            refine (HLF.out _ H6.out).mono ?_
            rintro e w7 ⟨rfl, k7, s7, m7⟩
            have H7 := Lib.hid s7
            have HM7 := Lib.hid m7
            clear s7 m7 H6 HLF
            go_wp2_with fail
            refine (HRT.out _ _ HM7.out H7.out).mono ?_
            rintro e w8 ⟨rfl, k8, s8, m8⟩
            have H8 := Lib.hid s8
            have HMF := Lib.hid (HFIN.out _ _ HM7.out m8)
            clear s8 m8 H7 HRT HFIN HM7
            go_wp2
            first | go_end0 | ((try simp only [Exit.inBlock, Exit.then]); refine bodyPost_ret (results_none rfl _ _ _) rfl ?_)
            exact ⟨rfl, _, H8.out, HMF.out⟩
          · have HROT := Lib.hid (fun W (hW : SoAt w0 W base g N cap f) => rotate_any w0 W base g N cap f hW hN s m en (by omega) (by omega) (by omega) (.func (.func 57) #[] #[]))
            have HLF := Lib.hid (fun W (hW : SoAt w0 W base g N cap (rot f s m en)) => HI.out a s mid (rot f s m en) W (by omega) (by omega) (by omega) (by omega) HSD.out.1 HSD.out.2.1 hW)
            have HFIN := Lib.hid (fun k (m1 : MgF N (rot f s m en) k a mid) => mg_halves (s := s) (e := en) h3 HCUT.out HS1.out HS2.out (by rw [show s + (en - m) = mid from by omega]; exact m1) (by rw [show s + (en - m) = mid from by omega]; exact (MgF.of_sd (show SdF k mid b from fun i j i1 i2 i3 => by rw [m1.out i (by omega), m1.out j (by omega)]; first | exact HSD.out.2.2.1 i j i1 i2 (by omega) | exact HSD.out.2.2.2 i j (by omega) i2 i3))))
            have p1 : (s : Int) < (m : Int) := by omega
            have p1d : decide ((s : Int) < (m : Int)) = true := decide_eq_true p1
            have p2 : (m : Int) < (en : Int) := by omega
            have p2d : decide ((m : Int) < (en : Int)) = true := decide_eq_true p2
            have p3 : (a : Int) < (s : Int) := by omega
            have p3d : decide ((a : Int) < (s : Int)) = true := decide_eq_true p3
            have p4 : (s : Int) < (mid : Int) := by omega
            have p4d : decide ((s : Int) < (mid : Int)) = true := decide_eq_true p4
            have p5 : (mid : Int) < (en : Int) := by omega
            have p5d : decide ((mid : Int) < (en : Int)) = true := decide_eq_true p5
            have p6 : ¬ (en : Int) < (b : Int) := by omega
            have p6d : decide ((en : Int) < (b : Int)) = false := decide_eq_false p6
            clear HSD HCUT HS1 HS2 HI
            go_wp2_with fail
            refine (HROT.out _ H.out).mono ?_
            rintro e w6 ⟨rfl, s6⟩
            have H6 := Lib.hid s6
            clear s6 H HROT
            go_wp2_with fail
            refine (HLF.out _ H6.out).mono ?_
            rintro e w7 ⟨rfl, k7, s7, m7⟩
            have H7 := Lib.hid s7
            have HM7 := Lib.hid m7
            clear s7 m7 H6 HLF
            have H8 := H7
            have HMF := Lib.hid (HFIN.out _ HM7.out)
            clear H7 HFIN HM7
            go_wp2
            first | go_end0 | ((try simp only [Exit.inBlock, Exit.then]); refine bodyPost_ret (results_none rfl _ _ _) rfl ?_)
            exact ⟨rfl, _, H8.out, HMF.out⟩
        · by_cases k4 : en < b
          · have HROT := Lib.hid (fun W (hW : SoAt w0 W base g N cap f) => rotate_any w0 W base g N cap f hW hN s m en (by omega) (by omega) (by omega) (.func (.func 57) #[] #[]))
            have HM7 := Lib.hid (show MgF N (rot f s m en) (rot f s m en) a mid from MgF.of_sd (by first | exact (show SdF (rot f s m en) a s from HSD.out.1).part (Nat.le_refl _) (by omega) | exact (show SdF (rot f s m en) s mid from HSD.out.2.1).part (by omega) (Nat.le_refl _)))
            have HRT := Lib.hid (fun k W (hm : MgF N (rot f s m en) k a mid) (hW : SoAt w0 W base g N cap k) => HI.out mid en b k W (by omega) (by omega) (by omega) h3 (fun i j i1 i2 i3 => by rw [hm.out i (by omega), hm.out j (by omega)]; exact HSD.out.2.2.1 i j i1 i2 i3) (fun i j i1 i2 i3 => by rw [hm.out i (by omega), hm.out j (by omega)]; exact HSD.out.2.2.2 i j i1 i2 i3) hW)
            have HFIN := Lib.hid (fun k h (m1 : MgF N (rot f s m en) k a mid) (m2 : MgF N k h mid b) => mg_halves (s := s) (e := en) h3 HCUT.out HS1.out HS2.out (by rw [show s + (en - m) = mid from by omega]; exact m1) (by rw [show s + (en - m) = mid from by omega]; exact m2))
            have p1 : (s : Int) < (m : Int) := by omega
            have p1d : decide ((s : Int) < (m : Int)) = true := decide_eq_true p1
            have p2 : (m : Int) < (en : Int) := by omega
            have p2d : decide ((m : Int) < (en : Int)) = true := decide_eq_true p2
            have p3 : ¬ (a : Int) < (s : Int) := by omega
            have p3d : decide ((a : Int) < (s : Int)) = false := decide_eq_false p3
            have p5 : (mid : Int) < (en : Int) := by omega
            have p5d : decide ((mid : Int) < (en : Int)) = true := decide_eq_true p5
            have p6 : (en : Int) < (b : Int) := by omega
            have p6d : decide ((en : Int) < (b : Int)) = true := decide_eq_true p6
            clear HSD HCUT HS1 HS2 HI
            go_wp2_with fail
            refine (HROT.out _ H.out).mono ?_
            rintro e w6 ⟨rfl, s6⟩
            have H6 := Lib.hid s6
            clear s6 H HROT
            obtain ⟨k7, H7, HM7'⟩ : ∃ k7, Hid (SoAt w0 _ base g N cap k7) ∧ Hid (MgF N (rot f s m en) k7 a mid) := ⟨_, H6, HM7⟩
            clear HM7 H6
            have HM7 := HM7'
            go_wp2_with fail
            refine (HRT.out _ _ HM7.out H7.out).mono ?_
            rintro e w8 ⟨rfl, k8, s8, m8⟩
            have H8 := Lib.hid s8
            have HMF := Lib.hid (HFIN.out _ _ HM7.out m8)
            clear s8 m8 H7 HRT HFIN HM7
            go_wp2
            first | go_end0 | ((try simp only [Exit.inBlock, Exit.then]); refine bodyPost_ret (results_none rfl _ _ _) rfl ?_)
            exact ⟨rfl, _, H8.out, HMF.out⟩
          · have HROT := Lib.hid (fun W (hW : SoAt w0 W base g N cap f) => rotate_any w0 W base g N cap f hW hN s m en (by omega) (by omega) (by omega) (.func (.func 57) #[] #[]))
            have HM7 := Lib.hid (show MgF N (rot f s m en) (rot f s m en) a mid from MgF.of_sd (by first | exact (show SdF (rot f s m en) a s from HSD.out.1).part (Nat.le_refl _) (by omega) | exact (show SdF (rot f s m en) s mid from HSD.out.2.1).part (by omega) (Nat.le_refl _)))
            have HFIN := Lib.hid (fun k (m1 : MgF N (rot f s m en) k a mid) => mg_halves (s := s) (e := en) h3 HCUT.out HS1.out HS2.out (by rw [show s + (en - m) = mid from by omega]; exact m1) (by rw [show s + (en - m) = mid from by omega]; exact (MgF.of_sd (show SdF k mid b from fun i j i1 i2 i3 => by rw [m1.out i (by omega), m1.out j (by omega)]; first | exact HSD.out.2.2.1 i j i1 i2 (by omega) | exact HSD.out.2.2.2 i j (by omega) i2 i3))))
            have p1 : (s : Int) < (m : Int) := by omega
            have p1d : decide ((s : Int) < (m : Int)) = true := decide_eq_true p1
            have p2 : (m : Int) < (en : Int) := by omega
            have p2d : decide ((m : Int) < (en : Int)) = true := decide_eq_true p2
            have p3 : ¬ (a : Int) < (s : Int) := by omega
            have p3d : decide ((a : Int) < (s : Int)) = false := decide_eq_false p3
            have p5 : (mid : Int) < (en : Int) := by omega
            have p5d : decide ((mid : Int) < (en : Int)) = true := decide_eq_true p5
            have p6 : ¬ (en : Int) < (b : Int) := by omega
            have p6d : decide ((en : Int) < (b : Int)) = false := decide_eq_false p6
            clear HSD HCUT HS1 HS2 HI
            go_wp2_with fail
            refine (HROT.out _ H.out).mono ?_
            rintro e w6 ⟨rfl, s6⟩
            have H6 := Lib.hid s6
            clear s6 H HROT
            obtain ⟨k7, H7, HM7'⟩ : ∃ k7, Hid (SoAt w0 _ base g N cap k7) ∧ Hid (MgF N (rot f s m en) k7 a mid) := ⟨_, H6, HM7⟩
            clear HM7 H6
            have HM7 := HM7'
            have H8 := H7
            have HMF := Lib.hid (HFIN.out _ HM7.out)
            clear H7 HFIN HM7
            go_wp2
            first | go_end0 | ((try simp only [Exit.inBlock, Exit.then]); refine bodyPost_ret (results_none rfl _ _ _) rfl ?_)
            exact ⟨rfl, _, H8.out, HMF.out⟩
      · by_cases k2 : s < mid
        · have hrr : rot f s m en = f := by first | (rw [show en = m from by omega]; exact rot_none2 f s m (by omega)) | (rw [show s = m from by omega]; exact rot_none f m en (by omega))
          have HRR := Lib.hid hrr
          clear hrr
          have HLF := Lib.hid (fun W (hW : SoAt w0 W base g N cap (rot f s m en)) => HI.out a s mid (rot f s m en) W (by omega) (by omega) (by omega) (by omega) HSD.out.1 HSD.out.2.1 hW)
          have HFIN := Lib.hid (fun k (m1 : MgF N (rot f s m en) k a mid) => mg_halves (s := s) (e := en) h3 HCUT.out HS1.out HS2.out (by rw [show s + (en - m) = mid from by omega]; exact m1) (by rw [show s + (en - m) = mid from by omega]; exact (MgF.of_sd (show SdF k mid b from fun i j i1 i2 i3 => by rw [m1.out i (by omega), m1.out j (by omega)]; first | exact HSD.out.2.2.1 i j i1 i2 (by omega) | exact HSD.out.2.2.2 i j (by omega) i2 i3))))
          have p1 : ¬ (s : Int) < (m : Int) := by omega
          have p1d : decide ((s : Int) < (m : Int)) = false := decide_eq_false p1
          have p3 : (a : Int) < (s : Int) := by omega
          have p3d : decide ((a : Int) < (s : Int)) = true := decide_eq_true p3
          have p4 : (s : Int) < (mid : Int) := by omega
          have p4d : decide ((s : Int) < (mid : Int)) = true := decide_eq_true p4
          have p5 : ¬ (mid : Int) < (en : Int) := by omega
          have p5d : decide ((mid : Int) < (en : Int)) = false := decide_eq_false p5
          clear HSD HCUT HS1 HS2 HI
          have H6 := Lib.hid H.out
          rw [← HRR.out] at H6
          clear H HRR
          go_wp2_with fail
          refine (HLF.out _ H6.out).mono ?_
          rintro e w7 ⟨rfl, k7, s7, m7⟩
          have H7 := Lib.hid s7
          have HM7 := Lib.hid m7
          clear s7 m7 H6 HLF
          have H8 := H7
          have HMF := Lib.hid (HFIN.out _ HM7.out)
          clear H7 HFIN HM7
          go_wp2
          first | go_end0 | ((try simp only [Exit.inBlock, Exit.then]); refine bodyPost_ret (results_none rfl _ _ _) rfl ?_)
          exact ⟨rfl, _, H8.out, HMF.out⟩
        · have hrr : rot f s m en = f := by first | (rw [show en = m from by omega]; exact rot_none2 f s m (by omega)) | (rw [show s = m from by omega]; exact rot_none f m en (by omega))
          have HRR := Lib.hid hrr
          clear hrr
          have HM7 := Lib.hid (show MgF N (rot f s m en) (rot f s m en) a mid from MgF.of_sd (by first | exact (show SdF (rot f s m en) a s from HSD.out.1).part (Nat.le_refl _) (by omega) | exact (show SdF (rot f s m en) s mid from HSD.out.2.1).part (by omega) (Nat.le_refl _)))
          have HFIN := Lib.hid (fun k (m1 : MgF N (rot f s m en) k a mid) => mg_halves (s := s) (e := en) h3 HCUT.out HS1.out HS2.out (by rw [show s + (en - m) = mid from by omega]; exact m1) (by rw [show s + (en - m) = mid from by omega]; exact (MgF.of_sd (show SdF k mid b from fun i j i1 i2 i3 => by rw [m1.out i (by omega), m1.out j (by omega)]; first | exact HSD.out.2.2.1 i j i1 i2 (by omega) | exact HSD.out.2.2.2 i j (by omega) i2 i3))))
          have p1 : ¬ (s : Int) < (m : Int) := by omega
          have p1d : decide ((s : Int) < (m : Int)) = false := decide_eq_false p1
          have p3 : (a : Int) < (s : Int) := by omega
          have p3d : decide ((a : Int) < (s : Int)) = true := decide_eq_true p3
          have p4 : ¬ (s : Int) < (mid : Int) := by omega
          have p4d : decide ((s : Int) < (mid : Int)) = false := decide_eq_false p4
          have p5 : ¬ (mid : Int) < (en : Int) := by omega
          have p5d : decide ((mid : Int) < (en : Int)) = false := decide_eq_false p5
          clear HSD HCUT HS1 HS2 HI
          have H6 := Lib.hid H.out
          rw [← HRR.out] at H6
          clear H HRR
          obtain ⟨k7, H7, HM7'⟩ : ∃ k7, Hid (SoAt w0 _ base g N cap k7) ∧ Hid (MgF N (rot f s m en) k7 a mid) := ⟨_, H6, HM7⟩
          clear HM7 H6
          have HM7 := HM7'
          have H8 := H7
          have HMF := Lib.hid (HFIN.out _ HM7.out)
          clear H7 HFIN HM7
          go_wp2
          first | go_end0 | ((try simp only [Exit.inBlock, Exit.then]); refine bodyPost_ret (results_none rfl _ _ _) rfl ?_)
          exact ⟨rfl, _, H8.out, HMF.out⟩
end Go.Proofs.Ytbbodgeoenjdkaa
