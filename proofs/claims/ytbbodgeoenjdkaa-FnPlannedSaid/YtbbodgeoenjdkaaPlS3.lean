/-
  Chapter 16: the first booking, an empty table; of the model.
-/
import Derived.Test.YtbbodgeoenjdkaaPlS2
namespace Go.Proofs.Ytbbodgeoenjdkaa
open Go.RowKit

structure FtAt (w W : World) (ao : Option Addr) (R S : Nat) (U : Tab) (x : Dm) : Prop where
  d : DmBk 38 W w.heap.size x
  z : BkBk 31 W (w.heap.size + 1) Bk.zero
  tb : RdTab W ao R S U
  below : Below w.heap.size w W
theorem FtAt.start {w : World} {ao : Option Addr} {R S : Nat} {U : Tab} (h : RdTab w ao R S U) (x : Dm) : FtAt w ((w.alloc (.cells #[.int .i64 x.node, .int .i64 x.every, .int .i64 x.size] 38)).alloc (.cells #[.int .i64 0, .int .i64 0] 31)) ao R S U x := by
  have b1 : Below w.heap.size w (w.alloc (.cells #[.int .i64 x.node, .int .i64 x.every, .int .i64 x.size] 38)) := (Below.refl _ _).alloc (Nat.le_refl _) _
  have b2 := (Below.refl (w.alloc (.cells #[.int .i64 x.node, .int .i64 x.every, .int .i64 x.size] 38)).heap.size (w.alloc (.cells #[.int .i64 x.node, .int .i64 x.every, .int .i64 x.size] 38))).alloc (Nat.le_refl _) (.cells #[.int .i64 0, .int .i64 0] 31)
  have h2 := BkBk.new (T := 31) (x := Bk.zero) (w.alloc (.cells #[.int .i64 x.node, .int .i64 x.every, .int .i64 x.size] 38))
  rw [World.size_alloc] at h2
  exact ⟨(DmBk.new w).below b2 (by simp), h2, (h.below b1).below b2, below_two b1 b2⟩
theorem FtAt.still {w W W' : World} {ao : Option Addr} {R S : Nat} {U : Tab} {x : Dm} (h : FtAt w W ao R S U x) (hb : Below W.heap.size W W') : FtAt w W' ao R S U x :=
  ⟨h.d.below hb h.d.lt, h.z.below hb h.z.lt, h.tb.below hb, below_two h.below hb⟩
set_option maxHeartbeats 4000000 in
set_option maxRecDepth 100000 in
set_option linter.unusedSimpArgs false in
/-- spec.l16First. -/
theorem l16First_any (ao : Option Addr) (cap R S : Nat) (U : Tab) (x : Dm) (w : World) (h : RdTab w ao R S U) (hU : tabOk U) (hx : isPow x.every = true) (hR0 : 0 < R) (hR : R ≤ 8) (hS0 : 0 < S) (hS : S ≤ 16) :
    Calls Try.prog 78 #[.slice ao R cap, dmVal x] w fun e w' =>
      (∃ b, plFirst U R S x = some b ∧ e = .returned (.tuple #[bkVal b, .bool true]) ∧ Below w.heap.size w w')
      ∨ (plFirst U R S x = none ∧ e = .returned (.tuple #[bkVal Bk.zero, .bool false]) ∧ Below w.heap.size w w') := by
  have HP := Lib.hid (FtAt.start h x)
  obtain ⟨b0, o0, ra0, rc0, rfl, -, -⟩ := h.row hR0
  have HC := Lib.hid (fun (b : Bk) W (hW : RdTab W (some ⟨b0, o0, none⟩) R S U) => l16Fits_any _ cap R S U x b W hW hU hx hR0 hR hS0 hS)
  clear h hU
  have hx2 := isPow_iff.1 hx
  clear hx
  obtain ⟨nd, ev, sz⟩ := x
  dsimp only at hx2
  obtain ⟨e, rfl⟩ : ∃ e : Nat, ev = (e : Int) := ⟨ev.toNat, by omega⟩
  have he : 0 < e := by omega
  have he8 : e ≤ 8 := by omega
  clear hx2
  unfold dmVal bkVal at HC
  unfold dmVal
  dsimp only at HC HP ⊢
  go_enter Try.func78, Try.ntmps78
  go_upto_region 1 with fail
  generalize ((w.alloc (.cells #[.int .i64 nd, .int .i64 (e : Int), .int .i64 sz] 38)).alloc (.cells #[.int .i64 0, .int .i64 0] 31)) = w1 at HP ⊢
  go_wp2
  go_loopw [6] (fun i wr => ∃ s : Nat, i = .int .i64 (s : Int) ∧ s ≤ S ∧ Hid (∀ c, c < s → plIn U R S ⟨nd, (e : Int), sz⟩ c = none) ∧ Hid (Below w1.heap.size w1 wr)) (fun i _ => 16 - (intOf i).toNat)
  case atStart => exact ⟨0, rfl, by omega, fun c hc => absurd hc (by omega), Below.refl _ _⟩
  case round =>
    obtain ⟨s, rfl, hs, HN, HB⟩ := hrel
    have HP1 := Lib.hid (HP.out.still HB.out)
    obtain ⟨b9, o9, ra1, rc1, e9, cr, -, -, -⟩ := HP1.out.tb.row hR0
    cases e9
    rw [Nat.add_zero] at cr
    by_cases hlt : s < S
    · have hlt' : (s : Int) < (S : Int) := by omega
      go_wp2
      clear cr
      have HS1 := Lib.hid (fun (h : plIn U R S ⟨nd, (e : Int), sz⟩ s = none) (c : Nat) (hc : c < s + 1) => (by
        by_cases e1 : c = s
        · subst e1; exact h
        · exact HN.out c (by omega) : plIn U R S ⟨nd, (e : Int), sz⟩ c = none))
      go_loopw [7] (fun i wr => ∃ q : Nat, i = .int .i64 (q : Int) ∧ q ≤ e ∧ Hid (∀ c, c < q → plFits U R S ⟨nd, (e : Int), sz⟩ ⟨(s : Int), (c : Int)⟩ = false) ∧ Hid (Below w1.heap.size w1 wr)) (fun i _ => e - (intOf i).toNat)
      case atStart => exact ⟨0, rfl, by omega, fun c hc => absurd hc (by omega), HB.out⟩
      case round =>
        clear HP1 HB
        obtain ⟨q, rfl, hq, HM, HB⟩ := hrel
        have HP1 := Lib.hid (HP.out.still HB.out)
        have d1 := HP1.out.d.all.2.1
        dsimp only at d1
        by_cases hqe : q < e
        · have hqe' : (q : Int) < (e : Int) := by omega
          have HBN := Lib.hid (BkBk.new (T := 31) (x := ⟨(s : Int), (q : Int)⟩) wr)
          have hb2 : Below wr.heap.size wr (wr.alloc (.cells #[.int .i64 (s : Int), .int .i64 (q : Int)] 31)) := (Below.refl _ _).alloc (Nat.le_refl _) _
          have HB2 := Lib.hid (below_two HB.out hb2)
          have HP2 := Lib.hid (HP1.out.still hb2)
          clear hb2 HP1
          go_upto_region 8 with fail
          clear d1
          generalize wr.alloc (.cells #[.int .i64 (s : Int), .int .i64 (q : Int)] 31) = w2 at HBN HB2 HP2 ⊢
          obtain ⟨k0, k1⟩ := HBN.out.all
          obtain ⟨d0, d1, d2⟩ := HP2.out.d.all
          dsimp only at k0 k1 d0 d1 d2
          have HCC := Lib.hid (HC.out ⟨(s : Int), (q : Int)⟩ w2 HP2.out.tb)
          dsimp only at HCC
          cases hf : plFits U R S ⟨nd, (e : Int), sz⟩ ⟨(s : Int), (q : Int)⟩
          · have HMM := Lib.hid (fun (c : Nat) (hc : c < q + 1) => (by
              by_cases e1 : c = q
              · subst e1; exact hf
              · exact HM.out c (by omega) : plFits U R S ⟨nd, (e : Int), sz⟩ ⟨(s : Int), (c : Int)⟩ = false))
            rw [hf] at HCC
            clear hf
            go_wp2_with (go_at_call 83; refine HCC.out.mono ?_; rintro e2 w3 ⟨rfl, b3⟩)
            go_roundw
            case rel => exact ⟨q + 1, by go_num, by omega, HMM.out, below_two HB2.out b3⟩
            case measure => simp [intOf]; omega
          · have HF := Lib.hid (plFirst_some hlt (plIn_some (by show q < (e : Int).toNat; omega) hf HM.out) HN.out)
            rw [hf] at HCC
            clear hf
            go_upto_region 9 with (go_at_call 83; refine HCC.out.mono ?_; rintro e2 w3 ⟨rfl, b3⟩)
            have HKN := Lib.hid (HBN.out.below b3 HBN.out.lt)
            have HP3 := Lib.hid (HP2.out.still b3)
            clear k0 k1 d0 d1 d2
            obtain ⟨k0, k1⟩ := HKN.out.all
            obtain ⟨z0, z1⟩ := HP3.out.z.all
            have f0 := HP3.out.z.f 0; have f1 := HP3.out.z.f 1
            unfold Bk.zero at z0 z1
            dsimp only at k0 k1 z0 z1
            go_wp2
            change bodyPost _ _ _ _ _ (setBk w3 (w.heap.size + 1) 0 ⟨(s : Int), (q : Int)⟩)
            obtain ⟨y0, y1⟩ := (HP3.out.z.put ⟨(s : Int), (q : Int)⟩).all
            dsimp only at y0 y1
            have HBF := Lib.hid (HP3.out.below.trans (below_setBk (B := w.heap.size) (w := w3) (off := 0) (Nat.le_succ _) ⟨(s : Int), (q : Int)⟩))
            generalize setBk w3 (w.heap.size + 1) 0 ⟨(s : Int), (q : Int)⟩ = w4 at y0 y1 HBF ⊢
            exact bodyPost_ret (v := .tuple #[bkVal ⟨(s : Int), (q : Int)⟩, .bool true]) (by simp [bkVal, results, Try.results78, go_sem, y0, y1]) rfl (.inl ⟨_, HF.out, rfl, HBF.out⟩)
        · have hqn : q = e := by omega
          subst hqn
          have HSS := Lib.hid (HS1.out (plIn_none (fun c hc => HM.out c (by have : (q : Int).toNat = q := Int.toNat_natCast q; dsimp only at hc; omega))))
          go_wp2
          go_roundw
          case rel => exact ⟨s + 1, by go_num, by omega, HSS.out, HB.out⟩
          case measure => simp [intOf]; omega
    · have hsn : s = S := by omega
      subst hsn
      have HF := Lib.hid (plFirst_none HN.out)
      obtain ⟨z0, z1⟩ := HP1.out.z.all
      have f0 := HP1.out.z.f 0; have f1 := HP1.out.z.f 1
      unfold Bk.zero at z0 z1
      dsimp only at z0 z1
      go_wp2
      change bodyPost _ _ _ _ _ (setBk wr (w.heap.size + 1) 0 Bk.zero)
      obtain ⟨y0, y1⟩ := (HP1.out.z.put Bk.zero).all
      have HBF := Lib.hid (HP1.out.below.trans (below_setBk (B := w.heap.size) (w := wr) (off := 0) (Nat.le_succ _) Bk.zero))
      unfold Bk.zero at y0 y1 HBF
      dsimp only at y0 y1
      show bodyPost _ _ _ _ _ (setBk wr (w.heap.size + 1) 0 ⟨0, 0⟩)
      generalize setBk wr (w.heap.size + 1) 0 ⟨0, 0⟩ = w4 at y0 y1 HBF ⊢
      exact bodyPost_ret (v := .tuple #[bkVal Bk.zero, .bool false]) (by simp [bkVal, Bk.zero, results, Try.results78, go_sem, y0, y1]) rfl (.inr ⟨HF.out, rfl, HBF.out⟩)
/-! ### an empty table -/
theorem plRow_zero (S r : Nat) : plRow tab0 S r = List.replicate S (-1) := by
  unfold plRow
  refine List.eq_replicate_iff.2 ⟨by simp, fun x hx => ?_⟩
  obtain ⟨i, _, rfl⟩ := List.mem_map.1 hx
  rfl
theorem plRows_zero (R S : Nat) : plRows tab0 R S = List.replicate R (List.replicate S (-1)) := by
  rw [plRows_eq]
  refine List.eq_replicate_iff.2 ⟨by simp, fun x hx => ?_⟩
  obtain ⟨i, _, rfl⟩ := List.mem_map.1 hx
  exact plRow_zero S i
set_option maxHeartbeats 4000000 in
set_option maxRecDepth 100000 in
/-- spec.l16Free. -/
theorem l16Free_any (R S : Nat) (w : World) (hR : R ≤ 8) (hS : S ≤ 16) :
    Calls Try.prog 77 #[.int .i64 (R : Int), .int .i64 (S : Int)] w fun e w' => ∃ v, e = .returned v ∧ TbAt w' w.heap.size w'.heap.size v R S tab0 ∧ Below w.heap.size w w' := by
  have HB0 := Lib.hid (show Below w.heap.size w (w.alloc (.cells #[] 45)) from (Below.refl _ _).alloc (Nat.le_refl _) _)
  have HO0 := Lib.hid (OwnT.of_alloc_nil (E := 45) (EI := 2) (w := w) (Nat.le_refl w.heap.size))
  go_enter Try.func77, Try.ntmps77
  go_upto_region 2 with fail
  generalize w.alloc (.cells #[] 45) = w1 at HB0 HO0 ⊢
  go_wp2
  go_loopw [5, 6] (fun v i wr => ∃ (r : Nat) (rs : List Rw), i = .int .i64 (r : Int) ∧ r ≤ R ∧ Hid (rs.length = r) ∧ Hid (rwx rs = List.replicate r (List.replicate S (-1))) ∧ Hid (OwnT 45 2 wr w.heap.size v rs) ∧ Hid (Below w.heap.size w wr)) (fun _ i _ => R - (intOf i).toNat)
  case atStart => exact ⟨0, [], rfl, Nat.zero_le _, rfl, rfl, HO0.out, HB0.out⟩
  case round =>
    clear HB0 HO0
    obtain ⟨r, rs, rfl, hr, HL, HX, HO, HB⟩ := hrel
    by_cases hlt : r < R
    · have hlt' : (r : Int) < (R : Int) := by omega
      have HBa := Lib.hid (show Below wr.heap.size wr (wr.alloc (.cells #[] 2)) from (Below.refl _ _).alloc (Nat.le_refl _) _)
      have HLa := Lib.hid (Own.of_alloc_nil (E := 2) (w := wr) (Nat.le_refl wr.heap.size))
      obtain ⟨wo, hwo⟩ : ∃ wo, wo = wr := ⟨_, rfl⟩
      subst hwo
      go_upto_region 6 with fail
      generalize wo.alloc (.cells #[] 2) = w2 at HBa HLa ⊢
      generalize hgo : wo.heap.size = go at HLa ⊢
      go_wp2
      go_loopw [7, 8] (fun v i wr => ∃ k : Nat, i = .int .i64 (k : Int) ∧ k ≤ S ∧ Hid (Own 2 wr wo.heap.size v (List.replicate k (-1))) ∧ Hid (Below wo.heap.size wo wr)) (fun _ i _ => S - (intOf i).toNat)
      case atStart => exact ⟨0, rfl, Nat.zero_le _, by rw [hgo]; exact HLa.out, HBa.out⟩
      case round =>
        clear HBa HLa
        obtain ⟨k, rfl, hk, HLn, HBn⟩ := hrel
        by_cases hkt : k < S
        · have hkt' : (k : Int) < (S : Int) := by omega
          have hsz := HBn.out.size
          clear hgo
          go_wp2_with (at_builtin; (refine append_one _ rfl _ _ rfl wo.heap.size Try.underlying45 info64 _ _ rfl (HLn.out.below ((Below.refl _ _).alloc (Nat.le_refl _) _)) _ _ _ rfl (new_cell rfl) (by simp; omega) (by simp; omega) ?_); intro v' w' hown hbel)
          have HNX := Lib.hid (show List.replicate k (-1 : Int) ++ [-1] = List.replicate (k + 1) (-1) from by rw [List.replicate_succ'])
          rw [HNX.out] at hown
          go_roundw
          case rel => exact ⟨k + 1, by go_num, by omega, hown, (HBn.out.alloc hsz _).trans hbel⟩
          case measure => simp [intOf]; omega
        · have hkn : k = S := by omega
          subst hkn
          obtain ⟨la, lc, rfl, lo, -⟩ := HLn.out.get
          have hll : (List.replicate k (-1 : Int)).length = k := List.length_replicate ..
          rw [hll] at lo ⊢
          have HLO := Lib.hid lo
          have HFR := Lib.hid (HO.out.fresh lo)
          have hyv : (⟨List.replicate k (-1), la, lc⟩ : Rw).v = .slice la k lc := by unfold Rw.v; rw [hll]
          have HYV := Lib.hid hyv
          have hsz := HBn.out.size
          have hsz0 := HB.out.size
          have HBq := Lib.hid (show Below wr.heap.size wr (wr.alloc (.cells #[.slice la k lc] 45)) from (Below.refl _ _).alloc (Nat.le_refl _) _)
          have hrl : rs.length ≤ 1048576 := by have := HL.out; omega
          clear hgo hll lo hyv
          go_wp2_with (at_builtin; (refine appendT _ rfl (by decide) _ _ rfl w.heap.size Try.underlying41 info_tb _ _ rfl (HO.out.below (below_two HBn.out HBq.out)) _ ⟨List.replicate k (-1), la, lc⟩ _ rfl (by rw [HYV.out]; exact new_cell rfl) (by rw [HYV.out]; exact (HLO.out.more hsz0).below HBq.out) (by rw [HYV.out]; exact HFR.out) hrl (by simp; omega) ?_); intro v' w' hown hbel)
          have HLL := Lib.hid (show (rs ++ [(⟨List.replicate k (-1), la, lc⟩ : Rw)]).length = r + 1 from by rw [List.length_append, HL.out]; rfl)
          have HXX := Lib.hid (show rwx (rs ++ [(⟨List.replicate k (-1), la, lc⟩ : Rw)]) = List.replicate (r + 1) (List.replicate k (-1)) from by unfold rwx; rw [List.map_append, show rs.map Rw.xs = rwx rs from rfl, HX.out, List.replicate_succ' (n := r)]; rfl)
          have HOO := Lib.hid hown
          have HBB := Lib.hid ((below_two (below_two HB.out HBn.out) HBq.out).trans hbel)
          clear hown hbel
          go_roundw
          case rel => exact ⟨r + 1, _, by go_num, by omega, HLL.out, HXX.out, HOO.out, HBB.out⟩
          case measure => simp [intOf]; omega
    · have hrn : r = R := by omega
      subst hrn
      have HF := Lib.hid (show rwx rs = plRows tab0 r S from by rw [HX.out, plRows_zero])
      go_wp2
      go_ret
      exact ⟨_, rfl, ⟨rs, HO.out, HF.out, fun c hc k e => ((HO.out.nx c hc).block k e).2, fun k e => (HO.out.block k e).2⟩, HB.out⟩
end Go.Proofs.Ytbbodgeoenjdkaa
