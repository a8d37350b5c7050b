/-
  Chapter 11: ModePath of the program.
-/
import Derived.Test.YtfmedckompdjgaaPF3
namespace Go.Proofs.Ytfmedckompdjgaa
open Go.RowKit

theorem mapAny_made (w : World) : MapAny (w.alloc (.map #[] 0)) w.heap.size := ⟨_, 0, by omega, mapIs_made w⟩
theorem run_makeMap_none {P : Program} {T : Nat} (w : World) : (Instr.makeMap T none).run P w = .ok (.map (some w.heap.size)) (w.alloc (.map #[] 0)) := by
  simp [Instr.makeMap, Result.andThen]
theorem modePath_len (t : List Md) (a b : Int) : (modePath t a b).1.length ≤ 1048576 := by
  rcases hF : modePath t a b with ⟨p, c⟩
  unfold modePath at hF
  split at hF
  · cases hF; simp
  · rename_i ht
    split at hF
    · cases hF; simp
    · split at hF
      · cases hF; simp
      · have h1 := (isModes_iff.1 (show isModes t = true by simpa using ht)).1
        have h2 : dist t b.toNat a.toNat ≤ t.length := (show distTo t b.toNat t.length a.toNat ≤ t.length ∧ _ from dist_le _ _).1
        cases hF
        simp only
        rw [pathTo_len]
        omega
set_option maxHeartbeats 2000000 in
set_option maxRecDepth 100000 in
/-- impl.ModePath. -/
theorem modePathI_any (ao : Option Addr) (n cap : Nat) (cs : List Mc) (a b : Int) (w : World) (hr : RdM w ao n cs) (hn : n ≤ 1048576) (hs : smallM cs) :
    Calls Try.prog 35 #[.slice ao n cap, .int .i64 a, .int .i64 b] w (Makes2 2 w (modePath (mds cs) a b).1 (modePath (mds cs) a b).2) := by
  have hb1 := (Below.refl w.heap.size w).alloc (Nat.le_refl _) (.cells #[.int .i64 a, .int .i64 b] 2)
  have HC := Lib.hid (codeM_any ao n cap cs _ 2 2 [a, b] _ (hr.below hb1) hn hs (rd_two 2 a b w) (by omega))
  have HB := Lib.hid hb1
  have HCO := Lib.hid (codeM_two (mds cs) a b)
  have hlen : (mds cs).length = n := (mds_len cs).trans hr.len
  have HR := Lib.hid hr
  rcases hc : isModes (mds cs) && (isMode (mds cs) a && isMode (mds cs) b) with _ | _
  · obtain ⟨q, hq, hq0, hF⟩ : ∃ q, q = codeM (mds cs) [a, b] ∧ q ≠ 0 ∧ modePath (mds cs) a b = ([], q) := by
      refine ⟨_, rfl, ?_, ?_⟩
      · rw [HCO.out]; rcases h1 : isModes (mds cs) with _ | _ <;> rcases h2 : (isMode (mds cs) a && isMode (mds cs) b) with _ | _ <;> simp_all
      · rw [HCO.out]; unfold modePath; rcases h1 : isModes (mds cs) with _ | _ <;> rcases h2 : (isMode (mds cs) a && isMode (mds cs) b) with _ | _ <;> simp_all
    have hqb : (q == 0) = false := by simp [hq0]
    have HQ := Lib.hid hq; have HF := Lib.hid hF
    rw [hF]
    clear hr hb1 hs hc hq hq0 hF hlen
    go_enter Try.func35, Try.ntmps35
    go_wp2_with fail
    refine HC.out.mono ?_
    rintro e w1 ⟨rfl, b1⟩
    rw [← HQ.out]
    go_wp2_with fail
    go_ret2
    exact ⟨_, rfl, Own.nil_, below_two HB.out b1⟩
  obtain ⟨hi, hma, hmb⟩ : isModes (mds cs) = true ∧ isMode (mds cs) a = true ∧ isMode (mds cs) b = true := by simpa using hc
  obtain ⟨ha0, ha1⟩ := isMode_iff.1 hma
  obtain ⟨hz0, hz1⟩ := isMode_iff.1 hmb
  obtain ⟨s, rfl⟩ : ∃ k : Nat, a = k := ⟨a.toNat, by omega⟩
  obtain ⟨z, rfl⟩ : ∃ k : Nat, b = k := ⟨b.toNat, by omega⟩
  rw [hlen] at ha1 hz1
  have hsn : s < n := by omega
  have hzn : z < n := by omega
  have hn16 : n ≤ 16 := by have := (isModes_iff.1 hi).1.2; omega
  have hF : modePath (mds cs) s z = if dist (mds cs) z s < 0 then ([], 4) else (pathTo (mds cs) z (dist (mds cs) z s).toNat s (dist (mds cs) z s).toNat, 0) := by
    unfold modePath
    rw [if_neg (by rw [hi]; simp), if_neg (by rw [hma, hmb]; simp), Int.toNat_natCast, Int.toNat_natCast]
  have hgr := graphD_in (t := mds cs) (s := s) (x := (z : Int)) (by rw [hlen]; exact ⟨hz0, hz1⟩)
  rw [Int.toNat_natCast] at hgr
  have HK := Lib.hid (show codeM (mds cs) [(s : Int), (z : Int)] = 0 from by rw [HCO.out, if_neg (by rw [hi]; simp), if_neg (by rw [hma, hmb]; simp)])
  have HT := Lib.hid hi
  clear hma hmb hc HCO hr hb1 hs hlen hi ha0 hz0
  by_cases hd : dist (mds cs) z s < 0
  · rw [if_pos hd] at hF
    rw [if_neg (by omega)] at hgr
    have HG := Lib.hid hgr
    rw [hF]
    clear hF hgr hd
    go_enter Try.func35, Try.ntmps35
    go_wp2_with fail
    refine HC.out.mono ?_
    rintro e w1 ⟨rfl, b1⟩
    rw [HK.out]
    have hbb := below_two HB.out b1
    have hb2 : Below w.heap.size w (w1.alloc (.map #[] 0)) := hbb.alloc hbb.size _
    have HCH := Lib.hid (changesD_any w1.heap.size ao n cap cs s (z : Int) _ (mapAny_made w1) (HR.out.below hb2) HT.out hsn ⟨by omega, by omega⟩ 0 false (by unfold valf; rw [HG.out]; rfl) (by rw [HG.out]; rfl))
    have HB2 := Lib.hid hb2; have HBS := Lib.hid hbb.size
    clear b1 hbb hb2 HC HB HR
    have hmk := fun W => run_makeMap_none (P := Try.prog) (T := 91) W
    go_wp2_with fail
    refine HCH.out.mono ?_
    rintro e w2 ⟨rfl, -, g2⟩
    have HG2 := Lib.hid (only_below HB2.out g2 HB2.out.size (fun k e => by cases e; exact HBS.out))
    clear g2 HCH
    go_wp2_with fail
    go_ret2
    exact ⟨_, rfl, Own.nil_, HG2.out⟩
  obtain ⟨N, hN⟩ : ∃ N : Nat, dist (mds cs) z s = N := ⟨(dist (mds cs) z s).toNat, by omega⟩
  have hN16 : N ≤ 16 := by
    have h2 : dist (mds cs) z s ≤ (mds cs).length := (show distTo (mds cs) z (mds cs).length s ≤ (mds cs).length ∧ _ from dist_le _ _).1
    rw [mds_len, HR.out.len] at h2
    omega
  rw [if_neg hd, hN, Int.toNat_natCast] at hF
  rw [if_pos (by omega), hN] at hgr
  have HG := Lib.hid hgr; have HN := Lib.hid hN
  rw [hF]
  clear hF hgr hd hN
  go_enter Try.func35, Try.ntmps35
  go_wp2_with fail
  refine HC.out.mono ?_
  rintro e w1 ⟨rfl, b1⟩
  rw [HK.out]
  have hbb := below_two HB.out b1
  have hb2 : Below w.heap.size w (w1.alloc (.map #[] 0)) := hbb.alloc hbb.size _
  have HCH := Lib.hid (changesD_any w1.heap.size ao n cap cs s (z : Int) _ (mapAny_made w1) (HR.out.below hb2) HT.out hsn ⟨by omega, by omega⟩ (N : Int) true (by unfold valf; rw [HG.out]; rfl) (by rw [HG.out]; rfl))
  have HB2 := Lib.hid hb2; have HBS := Lib.hid hbb.size
  clear b1 hbb hb2 HC HB
  have hmk := fun W => run_makeMap_none (P := Try.prog) (T := 91) W
  go_wp2_with fail
  refine HCH.out.mono ?_
  rintro e w2 ⟨rfl, hm2, g2⟩
  have hlt2 : w1.heap.size < w2.heap.size := by have := g2.size; simp at this; omega
  have hg2 := only_below HB2.out g2 HB2.out.size (fun k e => by cases e; exact HBS.out)
  have HG2 := Lib.hid hg2
  have HM2 := Lib.hid (show MapAny w2 w1.heap.size from ⟨_, hm2⟩)
  generalize w1.heap.size = m at HM2 HBS hlt2 HCH g2 hm2 ⊢
  clear g2 HCH hm2 hg2
  go_wp2_with fail
  have ho3 : Own 2 (w2.alloc (.cells #[.int .i64 (s : Int)] 2)) w2.heap.size (.slice (some ⟨w2.heap.size, 0, none⟩) 1 1) [(s : Int)] := Own.one (s : Int) (Nat.le_refl _)
  have hb3 : Below w2.heap.size w2 (w2.alloc (.cells #[.int .i64 (s : Int)] 2)) := (Below.refl _ _).alloc (Nat.le_refl _) _
  have HM3 := Lib.hid (HM2.out.low hb3 hlt2)
  have HB3 := Lib.hid (below_step HG2.out HG2.out.size hb3)
  have HS3 := Lib.hid hb3.size
  have HO3 := Lib.hid ho3
  have HBL := Lib.hid (show w.heap.size ≤ w2.heap.size from HG2.out.size)
  clear ho3 hb3 hmk HM2 HG2 HB2
  generalize w2.heap.size = B at hlt2 HS3 HO3 HBL
  go_loopw [10, 12, 13] (fun C V M wr => ∃ k c : Nat, k + c = N ∧ C = .int .i64 (c : Int) ∧ M = .int .i64 ((atK (mds cs) z N s k : Nat) : Int) ∧ Own 2 wr B V (pathTo (mds cs) z N s k) ∧ MapAny wr m ∧ Below w.heap.size w wr ∧ B ≤ wr.heap.size) (fun C _ _ _ => (intOf C).toNat)
  case atStart => exact ⟨0, N, by omega, rfl, rfl, HO3.out, HM3.out, HB3.out, HS3.out⟩
  case round =>
    clear HM3 HB3 HS3 HO3
    obtain ⟨k, c, hkc, rfl, rfl, ho, hm, hb, hs⟩ := hrel
    rcases c with _ | c
    · obtain rfl : k = N := by omega
      have HO := Lib.hid ho; have HB := Lib.hid hb
      clear ho hm hb
      go_wp2_with fail
      go_ret2
      exact ⟨_, rfl, HO.out.more HBL.out, HB.out⟩
    · have hkN : k < N := by omega
      have hai := atK_in HT.out (a := s) (by rw [mds_len, HR.out.len]; exact hsn) HN.out k (by omega)
      rw [mds_len, HR.out.len] at hai
      have hdk := atK_dist HT.out HN.out k (by omega)
      have hst : stepTo (mds cs) z c (atK (mds cs) z N s k) = atK (mds cs) z N s (k + 1) := by
        rw [atK, show (N : Int) - ((k : Int) + 1) = (c : Int) from by omega]
      have hfs := firstD_any m ao n cap cs (atK (mds cs) z N s k) z c wr hm (HR.out.below hb) HT.out hai hzn (by rw [hdk]; omega)
      rw [hst] at hfs
      have hsucc := pathTo_succ (mds cs) z N s k
      have hpl : (pathTo (mds cs) z N s k).length ≤ 4294967296 := by rw [pathTo_len]; omega
      obtain ⟨av, hav⟩ : ∃ av, av = atK (mds cs) z N s k := ⟨_, rfl⟩
      obtain ⟨an, han⟩ : ∃ an, an = atK (mds cs) z N s (k + 1) := ⟨_, rfl⟩
      obtain ⟨ps, hps⟩ : ∃ ps, ps = pathTo (mds cs) z N s k := ⟨_, rfl⟩
      rw [← hps] at ho hpl
      rw [← hps, ← han] at hsucc
      rw [← hav, ← han] at hfs
      rw [← hav]
      have HFS := Lib.hid hfs; have HSU := Lib.hid hsucc; have HAN := Lib.hid han; have HO := Lib.hid ho; have HB := Lib.hid hb; have HM := Lib.hid hm
      clear hfs hsucc han ho hb hm hav hps hai hdk hst
      rw [show ((c + 1 : Nat) : Int) = (c : Int) + 1 from by omega]
      go_wp2_with (first
        | (go_at_call 85; refine HFS.out.mono ?_; rintro e w3 ⟨rfl, m3, g3⟩; have HM3 := Lib.hid m3; have HB3 := Lib.hid (only_below HB.out g3 HB.out.size (fun k e => by cases e; exact HBS.out)); have HO3 := Lib.hid (HO.out.only g3 (own_no11 HO.out hlt2)); have HS3 := Lib.hid (Nat.le_trans hs g3.size); clear m3 g3)
        | (at_builtin; refine append_one _ rfl (.tmp 46) (.tmp 48) rfl B Try.underlying26 info64 _ _ rfl (HO3.out.below ((Below.refl _ _).alloc (Nat.le_refl _) _)) _ _ _ rfl (new_cell rfl) hpl (by have := HS3.out; simp; omega) ?_; intro v5 w5 o5 b5))
      have hb5 := ((Below.refl B w3).alloc HS3.out (.cells #[.int .i64 (an : Int)] 2)).trans b5
      have HM5 := Lib.hid (HM3.out.low hb5 hlt2); have HB5 := Lib.hid (HB3.out.trans (hb5.mono HBL.out)); have HO5 := Lib.hid o5; have HS5 := Lib.hid (Nat.le_trans HS3.out hb5.size)
      clear b5 hb5 o5
      go_roundw
      case rel => exact ⟨k + 1, c, by omega, by go_num, by rw [← HAN.out], by rw [HSU.out]; exact HO5.out, HM5.out, HB5.out, HS5.out⟩
      case measure => simp [intOf]
end Go.Proofs.Ytfmedckompdjgaa
