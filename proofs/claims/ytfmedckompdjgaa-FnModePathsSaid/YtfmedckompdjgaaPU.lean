/-
  Chapter 11: ModePath of the model.
-/
import Derived.Test.YtfmedckompdjgaaPT
import Derived.Test.YtfmedckompdjgaaPF3
namespace Go.Proofs.Ytfmedckompdjgaa
open Go.RowKit

def lenV : Value → Nat | .slice _ n _ => n | _ => 0
theorem find_drop {p : Int → Bool} {xs : List Int} {j : Nat} (hj : j < xs.length) (d : Int) : ((xs.drop j).find? p).getD d = if p (xs.getD j 0) = true then xs.getD j 0 else ((xs.drop (j + 1)).find? p).getD d := by
  rw [List.drop_eq_getElem_cons hj, List.find?_cons, show xs[j] = xs.getD j 0 from by rw [List.getD_eq_getElem?_getD, List.getElem?_eq_getElem hj, Option.getD_some]]
  rcases p (xs.getD j 0) with _ | _ <;> simp
set_option maxHeartbeats 4000000 in
set_option maxRecDepth 100000 in
/-- spec.ModePath. -/
theorem modePathS_any (ao : Option Addr) (n cap : Nat) (cs : List Mc) (a b : Int) (w : World) (hr : RdM w ao n cs) (hn : n ≤ 1048576) (hs : smallM cs) :
    Calls Try.prog 36 #[.slice ao n cap, .int .i64 a, .int .i64 b] w (Makes2 2 w (modePath (mds cs) a b).1 (modePath (mds cs) a b).2) := by
  have HC := Lib.hid (isModesS_any ao n cap cs _ hr hn hs)
  have HLA := Lib.hid (fun W => l11Mode_any ao n cap a (mds cs) W ((mds_len cs).trans hr.len) hn)
  have HLB := Lib.hid (fun W => l11Mode_any ao n cap b (mds cs) W ((mds_len cs).trans hr.len) hn)
  have hl : (mds cs).length = n := (mds_len cs).trans hr.len
  have HR := Lib.hid hr; clear hr hs
  rcases hi : isModes (mds cs) with _ | _
  · rw [show modePath (mds cs) a b = ([], 1) from by unfold modePath; rw [if_pos hi]]
    go_enter Try.func36, Try.ntmps36
    go_wp2_with fail
    refine HC.out.mono ?_
    rintro e w1 ⟨rfl, b1⟩
    rw [hi]
    go_wp2_with fail
    go_ret2
    exact ⟨_, rfl, Own.nil_, b1⟩
  rcases hma : isMode (mds cs) a with _ | _
  · rw [show modePath (mds cs) a b = ([], 2) from by unfold modePath; rw [if_neg (by rw [hi]; simp), if_pos (by rw [hma]; rfl)]]
    go_enter Try.func36, Try.ntmps36
    go_wp2_with fail
    refine HC.out.mono ?_
    rintro e w1 ⟨rfl, b1⟩
    rw [hi]
    go_wp2_with fail
    refine (HLA.out _).mono ?_
    rintro e w2 ⟨rfl, rfl⟩
    rw [hma]
    go_wp2_with fail
    go_ret2
    exact ⟨_, rfl, Own.nil_, b1⟩
  rcases hmb : isMode (mds cs) b with _ | _
  · rw [show modePath (mds cs) a b = ([], 2) from by unfold modePath; rw [if_neg (by rw [hi]; simp), if_pos (by rw [hma, hmb]; rfl)]]
    go_enter Try.func36, Try.ntmps36
    go_wp2_with fail
    refine HC.out.mono ?_
    rintro e w1 ⟨rfl, b1⟩
    rw [hi]
    go_wp2_with fail
    refine (HLA.out _).mono ?_
    rintro e w2 ⟨rfl, rfl⟩
    rw [hma]
    go_wp2_with fail
    refine (HLB.out _).mono ?_
    rintro e w2 ⟨rfl, rfl⟩
    rw [hmb]
    go_wp2_with fail
    go_ret2
    exact ⟨_, rfl, Own.nil_, b1⟩
  obtain ⟨ha0, ha1⟩ := isMode_iff.1 hma
  obtain ⟨hz0, hz1⟩ := isMode_iff.1 hmb
  obtain ⟨s, rfl⟩ : ∃ k : Nat, a = k := ⟨a.toNat, by omega⟩
  obtain ⟨z, rfl⟩ : ∃ k : Nat, b = k := ⟨b.toNat, by omega⟩
  rw [hl] at ha1 hz1
  have hsn : s < n := by omega
  have hzn : z < n := by omega
  have hn16 : n ≤ 16 := by have := (isModes_iff.1 hi).1.2; omega
  have hF : modePath (mds cs) s z = if dist (mds cs) z s < 0 then ([], 4) else (pathTo (mds cs) z (dist (mds cs) z s).toNat s (dist (mds cs) z s).toNat, 0) := by
    unfold modePath
    rw [if_neg (by rw [hi]; simp), if_neg (by rw [hma, hmb]; simp), Int.toNat_natCast, Int.toNat_natCast]
  have HT := Lib.hid hi; have HMA := Lib.hid hma; have HMB := Lib.hid hmb; have HL := Lib.hid hl
  have HD := Lib.hid (fun W (h : RdM W ao n cs) => l11Dists_any ao n cap cs z W h hi hzn)
  have hdl : (dists (mds cs) z).length = n := by rw [dists_len, hl]
  have hdg : ∀ x, x < n → (dists (mds cs) z).getD x 0 = dist (mds cs) z x := fun x hx => dists_get (by rw [hl]; exact hx)
  clear hi hma hmb ha0 hz0 hl
  generalize dists (mds cs) z = Q at HD hdl hdg
  have HDG := Lib.hid hdg; clear hdg
  by_cases hd : dist (mds cs) z s < 0
  · rw [if_pos hd] at hF
    rw [hF]
    obtain ⟨q, hq⟩ : ∃ q, dist (mds cs) z s = q := ⟨_, rfl⟩
    have HV := Lib.hid hq
    rw [hq] at hd
    clear hF hq
    go_enter Try.func36, Try.ntmps36
    go_wp2_with fail
    refine HC.out.mono ?_
    rintro e w1 ⟨rfl, b1⟩
    rw [HT.out]
    have HB1 := Lib.hid b1; have HR1 := Lib.hid (HR.out.below b1); clear b1
    go_wp2_with fail
    refine (HLA.out _).mono ?_
    rintro e w2 ⟨rfl, rfl⟩
    rw [HMA.out]
    go_wp2_with fail
    refine (HLB.out _).mono ?_
    rintro e w2 ⟨rfl, rfl⟩
    rw [HMB.out]
    clear HC HLA HLB
    go_wp2_with fail
    refine (HD.out _ HR1.out).mono ?_
    rintro e w3 m3
    obtain ⟨p3, c3, rfl, -, r3, b3⟩ := m3.get
    obtain ⟨g3, off3, rfl, hc3⟩ := r3.here (by omega)
    have ks := hc3 s (by omega)
    rw [HDG.out s hsn, HV.out] at ks
    have HB3 := Lib.hid (below_two HB1.out b3)
    have HR3 := Lib.hid (HR1.out.below b3)
    have HQ := Lib.hid r3
    clear m3 r3 b3 hc3 HB1 HR1 HR HD
    rw [hdl] at HQ ⊢
    have hsi : (s : Int) < (n : Int) := by omega
    go_wp2_with fail
    go_ret2
    exact ⟨_, rfl, Own.nil_, HB3.out⟩
  obtain ⟨N, hN⟩ : ∃ N : Nat, dist (mds cs) z s = N := ⟨(dist (mds cs) z s).toNat, by omega⟩
  have hN16 : N ≤ 16 := by
    have h2 : dist (mds cs) z s ≤ (mds cs).length := (show distTo (mds cs) z (mds cs).length s ≤ (mds cs).length ∧ _ from dist_le _ _).1
    rw [HL.out] at h2
    omega
  rw [if_neg hd, hN, Int.toNat_natCast] at hF
  rw [hF]
  have HV := Lib.hid hN
  clear hF hd hN
  go_enter Try.func36, Try.ntmps36
  go_wp2_with fail
  refine HC.out.mono ?_
  rintro e w1 ⟨rfl, b1⟩
  rw [HT.out]
  have HB1 := Lib.hid b1; have HR1 := Lib.hid (HR.out.below b1); clear b1
  go_wp2_with fail
  refine (HLA.out _).mono ?_
  rintro e w2 ⟨rfl, rfl⟩
  rw [HMA.out]
  go_wp2_with fail
  refine (HLB.out _).mono ?_
  rintro e w2 ⟨rfl, rfl⟩
  rw [HMB.out]
  clear HC HLA HLB
  go_wp2_with fail
  refine (HD.out _ HR1.out).mono ?_
  rintro e w3 m3
  obtain ⟨p3, c3, rfl, -, r3, b3⟩ := m3.get
  obtain ⟨g3, off3, rfl, hc3⟩ := r3.here (by omega)
  have ks := hc3 s (by omega)
  rw [HDG.out s hsn, HV.out] at ks
  have HB3 := Lib.hid (below_two HB1.out b3)
  have HR3 := Lib.hid (HR1.out.below b3)
  have HQ := Lib.hid r3
  clear m3 r3 b3 hc3 HB1 HR1 HR HD
  rw [hdl] at HQ ⊢
  have hsi : (s : Int) < (n : Int) := by omega
  go_wp2_with fail
  have ho4 : Own 2 (w3.alloc (.cells #[.int .i64 (s : Int)] 2)) w3.heap.size (.slice (some ⟨w3.heap.size, 0, none⟩) 1 1) [(s : Int)] := Own.one (s : Int) (Nat.le_refl _)
  have hb4 : Below w3.heap.size w3 (w3.alloc (.cells #[.int .i64 (s : Int)] 2)) := (Below.refl _ _).alloc (Nat.le_refl _) _
  clear ks
  go_loopw [9, 10] (fun V A wr => ∃ k c : Nat, k + c = N ∧ A = .int .i64 ((atK (mds cs) z N s k : Nat) : Int) ∧ Own 2 wr w3.heap.size V (pathTo (mds cs) z N s k) ∧ Below w3.heap.size w3 wr) (fun V _ _ => 20 - lenV V)
  case atStart => exact ⟨0, N, by omega, rfl, ho4, hb4⟩
  case round =>
    clear ho4 hb4
    obtain ⟨k, c, hkc, rfl, ho, hb⟩ := hrel
    have hbs : w.heap.size ≤ w3.heap.size := HB3.out.size
    rcases c with _ | c
    · obtain rfl : k = N := by omega
      rw [atK_last HT.out HV.out]
      have HO := Lib.hid ho; have HB := Lib.hid hb
      clear ho hb
      go_wp2_with fail
      go_ret2
      exact ⟨_, rfl, HO.out.more hbs, HB3.out.trans (HB.out.mono hbs)⟩
    · have hkN : k < N := by omega
      have hai := atK_in HT.out (a := s) (by rw [HL.out]; exact hsn) HV.out k (by omega)
      rw [HL.out] at hai
      have hdk := atK_dist HT.out HV.out k (by omega)
      have hne : atK (mds cs) z N s k ≠ z := fun e => by
        have h0 := (dist_zero HT.out (a := atK (mds cs) z N s k)).2 e
        omega
      have hst : stepTo (mds cs) z c (atK (mds cs) z N s k) = atK (mds cs) z N s (k + 1) := by
        rw [atK, show (N : Int) - ((k : Int) + 1) = (c : Int) from by omega]
      have hfs := near_step HT.out (z := z) (a := atK (mds cs) z N s k) (n := c) (by rw [hdk]; omega)
      rw [hst, mdOf_mds] at hfs
      have hdav := HDG.out _ hai
      rw [hdk] at hdav
      have hsucc := pathTo_succ (mds cs) z N s k
      have hpl := pathTo_len (mds cs) z N s k
      have hlast : (pathTo (mds cs) z N s k).getD k 0 = ((atK (mds cs) z N s k : Nat) : Int) := pathTo_get (Nat.le_refl _)
      have hneb : (((atK (mds cs) z N s k : Nat) : Int) != (z : Int)) = true := bne_iff_ne.2 (fun e => hne (Int.ofNat_inj.1 e))
      obtain ⟨tb, toff, rfl, htb, hmc, -⟩ := HR3.out.at hai
      have hrd := (HR3.out.next _ (mcOf_mem (i := atK (mds cs) z N s k) (by rw [HR3.out.len]; exact hai))).rd
      have hnl : (mcOf cs (atK (mds cs) z N s k)).md.next.length ≤ 16 := by
        have := rises_len (modes_md HT.out (mdOf_mem (t := mds cs) (i := atK (mds cs) z N s k) (by rw [HL.out]; exact hai))).2.2
        rw [mdOf_mds, HL.out] at this
        omega
      have hny := next_in HT.out (atK (mds cs) z N s k)
      rw [mdOf_mds, HL.out] at hny
      have hpy : ∀ y : Nat, y < n → nearBy (mds cs) z ((c : Int) + 1 - 1) (y : Int) = decide (Q.getD y 0 = (c : Int)) := fun y hy => by
        rw [HDG.out y hy]
        unfold nearBy
        rw [Int.toNat_natCast, show (c : Int) + 1 - 1 = (c : Int) from by omega]
      rw [show (N : Int) - (k : Int) = (c : Int) + 1 from by omega] at hdav
      generalize pathTo (mds cs) z N s k = ps at ho hsucc hpl hlast
      generalize atK (mds cs) z N s k = av at *
      obtain ⟨an, han⟩ : ∃ an, an = atK (mds cs) z N s (k + 1) := ⟨_, rfl⟩
      rw [← han] at hfs hsucc
      generalize mcOf cs av = x at hmc hrd hnl hny hfs
      obtain ⟨⟨x0, x1, nx⟩, cao, ccap⟩ := x
      obtain ⟨-, -, d2⟩ := hmc
      simp only at d2 hrd hnl hny hfs
      generalize nearBy (mds cs) z ((c : Int) + 1 - 1) = p at hfs hpy
      replace d2 := (hb.cell (p := ⟨tb, toff + av * 3 + 2, none⟩) htb).trans d2
      have hvi : (av : Int) < (n : Int) := by omega
      have HRD := Lib.hid hrd; have HNY := Lib.hid hny; have HFS := Lib.hid hfs; have HPY := Lib.hid hpy; have HAN := Lib.hid han; have HSU := Lib.hid hsucc; have HLA := Lib.hid hlast; have HDA := Lib.hid hdav; have HO := Lib.hid ho; have HB := Lib.hid hb
      clear hrd hny hfs hpy han hsucc hlast hdav ho hb hdk hst hne
      go_wp2_with fail
      clear d2
      obtain ⟨vo, vc, rfl, ho, -⟩ := HO.out.get
      rw [hpl] at ho ⊢
      have HO' := Lib.hid ho
      clear HO ho
      go_loopw [10, 12] (fun A K wk => ∃ j : Nat, j ≤ nx.length ∧ K = .int .i64 ((j : Int) - 1) ∧ A = .int .i64 (((nx.drop j).find? p).getD (av : Int)) ∧ Own 2 wk w3.heap.size (.slice vo (k + 1) vc) ps ∧ Below w3.heap.size w3 wk) (fun _ K _ => (intOf K + 1).toNat)
      case atStart => exact ⟨nx.length, Nat.le_refl _, by first | rfl | go_num, by rw [List.drop_length]; rfl, HO'.out, HB.out⟩
      case round =>
        clear HO' HB
        obtain ⟨j, hj, rfl, rfl, ho, hb⟩ := hrel
        rcases j with _ | j
        · rw [List.drop_zero, HFS.out, Option.getD_some, show ((0 : Nat) : Int) - 1 = -1 from rfl]
          have HO := Lib.hid ho; have HB := Lib.hid hb
          have hs5 : w3.heap.size ≤ wr.heap.size := hb.size
          have hpl2 : ps.length ≤ 4294967296 := by omega
          clear ho hb
          go_wp2_with (at_builtin; refine append_one _ rfl (.tmp 74) (.tmp 76) rfl w3.heap.size Try.underlying26 info64 _ _ rfl (HO.out.below ((Below.refl _ _).alloc (Nat.le_refl _) _)) _ _ _ rfl (new_cell rfl) hpl2 (by simp; omega) ?_; intro v6 w6 o6 b6)
          rw [← HSU.out] at o6
          have hl6 := pathTo_len (mds cs) z N s (k + 1)
          obtain ⟨vo6, vc6, rfl, o6, -⟩ := o6.get
          rw [hl6] at o6 ⊢
          have HO6 := Lib.hid o6; have HB6 := Lib.hid (HB.out.trans (((Below.refl _ _).alloc hs5 _).trans b6))
          clear o6 b6 hl6
          go_roundw
          case rel => exact ⟨k + 1, c, by omega, by rw [HAN.out], HO6.out, HB6.out⟩
          case measure => simp [lenV]; omega
        · rw [show ((j + 1 : Nat) : Int) - 1 = (j : Int) from by omega]
          have hjn : j < nx.length := by omega
          have hji : (j : Int) < (nx.length : Int) := by omega
          have hfd := find_drop (p := p) hjn (av : Int)
          have hyb := HNY.out (nx.getD j 0) (by rw [List.getD_eq_getElem?_getD, List.getElem?_eq_getElem hjn]; exact List.getElem_mem hjn)
          obtain ⟨y, hy⟩ : ∃ y : Nat, nx.getD j 0 = (y : Int) := ⟨(nx.getD j 0).toNat, by omega⟩
          rw [hy] at hyb hfd
          have hyn : y < n := by omega
          obtain ⟨xb, xoff, hxe, hcx⟩ := (HRD.out.below hb).here (by omega)
          subst hxe
          have ck := hcx j hjn
          rw [hy] at ck
          obtain ⟨qb, qoff, hqe, hcq⟩ := (HQ.out.below hb).here (by omega)
          cases hqe
          have cy := hcq y hyn
          have cav := hcq av hai
          rw [HDA.out] at cav
          have hp := HPY.out y hyn
          obtain ⟨q, hq⟩ : ∃ q, q = Q.getD y 0 := ⟨_, rfl⟩
          rw [← hq] at cy hp
          rw [hp] at hfd
          have hvr : Rd wr vo (k + 1) ps := by
            obtain ⟨vo', vc', e, -, r⟩ := ho.get
            rw [hpl] at e r
            cases e
            exact r
          obtain ⟨vb, voff, hve, hcv⟩ := hvr.here (by omega)
          subst hve
          have clast := hcv k (by omega)
          rw [HLA.out] at clast
          generalize ((nx.drop (j + 1)).find? p).getD (av : Int) = A at hfd ⊢
          have HO := Lib.hid ho; have HB := Lib.hid hb; have HFD := Lib.hid hfd
          clear ho hb hfd hp hq hcx hcq hcv hvr hy
          have hw1 : IntKind.i64.wrap ((c : Int) + 1 - 1) = (c : Int) := by rw [IntKind.wrap_i64]; omega
          have hvi2 : (y : Int) < (n : Int) := by omega
          by_cases hqc : q = (c : Int)
          · subst hqc
            go_wp2_with fail
            go_quiet (fail)
            go_wp2_with fail
            go_roundw
            case rel => exact ⟨j, by omega, by go_num, by rw [HFD.out]; simp, HO.out.below (below_drewN' (Below.refl _ _) _), below_drewN' HB.out _⟩
            case measure => simp [intOf]
          · have hqb : (q == (c : Int)) = false := by simp [hqc]
            go_wp2_with fail
            go_quiet (fail)
            go_wp2_with fail
            go_roundw
            case rel => exact ⟨j, by omega, by go_num, by rw [HFD.out]; simp [hqc], HO.out.below (below_drewN' (Below.refl _ _) _), below_drewN' HB.out _⟩
            case measure => simp [intOf]
end Go.Proofs.Ytfmedckompdjgaa
