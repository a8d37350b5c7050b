/-
  Chapter 11: ReachableModes and ModePath of the model.
-/
import Derived.Test.YtfmedckompdjgaaPS
import Derived.BigQuiet
namespace Go.Proofs.Ytfmedckompdjgaa
open Go.RowKit

/-- The first k modes of those from which a mode can be reached. -/
def reachTo (t : List Md) (a k : Nat) : List Int := List.map (fun b : Nat => (b : Int)) ((List.range k).filter fun b => decide (0 ≤ dist t b a))
theorem reachTo_all (t : List Md) (a : Nat) : reachTo t a t.length = reachOf t a := rfl
theorem reachTo_yes {t : List Md} {a k : Nat} (h : 0 ≤ dist t k a) : reachTo t a (k + 1) = reachTo t a k ++ [(k : Int)] := by
  unfold reachTo
  rw [List.range_succ, List.filter_append, List.map_append]
  simp [h]
theorem reachTo_no {t : List Md} {a k : Nat} (h : ¬ 0 ≤ dist t k a) : reachTo t a (k + 1) = reachTo t a k := by
  unfold reachTo
  rw [List.range_succ, List.filter_append, List.map_append]
  simp [h]
theorem reachTo_len (t : List Md) (a k : Nat) : (reachTo t a k).length ≤ k := by
  unfold reachTo
  rw [List.length_map]
  have := List.length_filter_le (fun b => decide (0 ≤ dist t b a)) (List.range k)
  rwa [List.length_range] at this
theorem reachable_len (t : List Md) (a : Int) : (reachableModes t a).1.length ≤ 1048576 := by
  unfold reachableModes
  split
  · simp
  · rename_i ht
    split
    · simp
    · have h1 := (isModes_iff.1 (show isModes t = true by simpa using ht)).1
      have h2 := reachTo_len t a.toNat t.length
      rw [reachTo_all] at h2
      simp only
      omega
set_option maxHeartbeats 2000000 in
set_option maxRecDepth 100000 in
/-- spec.ReachableModes. -/
theorem reachS_any (ao : Option Addr) (n cap : Nat) (cs : List Mc) (a : Int) (w : World) (hr : RdM w ao n cs) (hn : n ≤ 1048576) (hs : smallM cs) :
    Calls Try.prog 38 #[.slice ao n cap, .int .i64 a] w (Makes2 2 w (reachableModes (mds cs) a).1 (reachableModes (mds cs) a).2) := by
  have HC := Lib.hid (isModesS_any ao n cap cs _ hr hn hs)
  have HLM := Lib.hid (fun W => l11Mode_any ao n cap a (mds cs) W ((mds_len cs).trans hr.len) hn)
  have hl : (mds cs).length = n := (mds_len cs).trans hr.len
  have HR := Lib.hid hr; clear hr hs
  rcases hi : isModes (mds cs) with _ | _
  · rw [show reachableModes (mds cs) a = ([], 1) from by unfold reachableModes; rw [if_pos hi]]
    go_enter Try.func38, Try.ntmps38
    go_wp2_with fail
    refine HC.out.mono ?_
    rintro e w1 ⟨rfl, b1⟩
    rw [hi]
    go_wp2_with fail
    go_ret2
    exact ⟨_, rfl, Own.nil_, b1⟩
  rcases hm : isMode (mds cs) a with _ | _
  · rw [show reachableModes (mds cs) a = ([], 2) from by unfold reachableModes; rw [if_neg (by rw [hi]; simp), if_pos hm]]
    go_enter Try.func38, Try.ntmps38
    go_wp2_with fail
    refine HC.out.mono ?_
    rintro e w1 ⟨rfl, b1⟩
    rw [hi]
    go_wp2_with fail
    refine (HLM.out _).mono ?_
    rintro e w2 ⟨rfl, rfl⟩
    rw [hm]
    go_wp2_with fail
    go_ret2
    exact ⟨_, rfl, Own.nil_, b1⟩
  obtain ⟨hm0, hm1⟩ := isMode_iff.1 hm
  obtain ⟨s, rfl⟩ : ∃ k : Nat, a = k := ⟨a.toNat, by omega⟩
  have hsn : s < n := by omega
  have hn16 : n ≤ 16 := by have := (isModes_iff.1 hi).1.2; omega
  rw [show reachableModes (mds cs) s = (reachTo (mds cs) s n, 0) from by unfold reachableModes; rw [if_neg (by rw [hi]; simp), if_neg (by rw [hm]; simp), Int.toNat_natCast, ← reachTo_all, hl]]
  have HT := Lib.hid hi; have HM := Lib.hid hm; have HL := Lib.hid hl
  clear hi hm hm0 hm1 hl
  go_enter Try.func38, Try.ntmps38
  go_wp2_with fail
  refine HC.out.mono ?_
  rintro e w1 ⟨rfl, b1⟩
  rw [HT.out]
  have HB1 := Lib.hid b1; clear b1
  go_wp2_with fail
  refine (HLM.out _).mono ?_
  rintro e w2 ⟨rfl, rfl⟩
  rw [HM.out]
  clear HC HLM
  go_wp2_with fail
  have ho1 : Own 2 (w1.alloc (.cells #[] 2)) w.heap.size (.slice (some ⟨w1.heap.size, 0, none⟩) 0 0) [] := Own.of_alloc_nil HB1.out.size
  have hb2 : Below w.heap.size w (w1.alloc (.cells #[] 2)) := HB1.out.alloc HB1.out.size _
  go_loopw [6, 7] (fun V i wr => ∃ k : Nat, k ≤ n ∧ i = .int .i64 (k : Int) ∧ Own 2 wr w.heap.size V (reachTo (mds cs) s k) ∧ Below w.heap.size w wr) (fun _ i _ => n - (intOf i).toNat)
  case atStart => exact ⟨0, Nat.zero_le _, rfl, ho1, hb2⟩
  case round =>
    clear ho1 hb2
    obtain ⟨k, hk, rfl, ho, hb⟩ := hrel
    by_cases hkn : k < n
    · have hki : (k : Int) < (n : Int) := by omega
      have hmk := l11Dists_any ao n cap cs k wr (HR.out.below hb) HT.out hkn
      have hdl : (dists (mds cs) k).length = n := by rw [dists_len, HL.out]
      have hdg : (dists (mds cs) k).getD s 0 = dist (mds cs) k s := dists_get (by rw [HL.out]; exact hsn)
      generalize dists (mds cs) k = Q at hmk hdl hdg
      have HMK := Lib.hid hmk; have HDG := Lib.hid hdg
      have hrl : (reachTo (mds cs) s k).length ≤ 4294967296 := by have := reachTo_len (mds cs) s k; omega
      have hyes := reachTo_yes (t := mds cs) (a := s) (k := k)
      have hno := reachTo_no (t := mds cs) (a := s) (k := k)
      rw [← HDG.out] at hyes hno
      generalize reachTo (mds cs) s k = ps at ho hrl hyes hno
      have HY := Lib.hid hyes; have HN := Lib.hid hno; have HO := Lib.hid ho; have HB := Lib.hid hb
      clear hmk hdg hyes hno ho hb
      go_wp2_with fail
      refine HMK.out.mono ?_
      rintro e w5 m5
      obtain ⟨p5, c5, rfl, -, r5, b5⟩ := m5.get
      obtain ⟨g5, off5, rfl, hc5⟩ := r5.here (by omega)
      have cs5 := hc5 s (by omega)
      have HO5 := Lib.hid (HO.out.below b5)
      have HB5 := Lib.hid (below_two HB.out b5)
      clear m5 r5 b5 hc5 HDG
      have hsi : (s : Int) < (Q.length : Int) := by omega
      obtain ⟨q, hq⟩ : ∃ q, q = Q.getD s 0 := ⟨_, rfl⟩
      rw [← hq] at cs5
      by_cases hq0 : 0 ≤ q
      · have HS := Lib.hid (HY.out (by rw [← hq]; exact hq0))
        clear hq
        have hs5 : w.heap.size ≤ w5.heap.size := HB5.out.size
        go_wp2_with (at_builtin; refine append_one _ rfl (.tmp 29) (.tmp 31) rfl w.heap.size Try.underlying26 info64 _ _ rfl (HO5.out.below ((Below.refl _ _).alloc (Nat.le_refl _) _)) _ _ _ rfl (new_cell rfl) hrl (by simp; omega) ?_; intro v6 w6 o6 b6)
        have HO6 := Lib.hid o6; have HB6 := Lib.hid (HB5.out.trans (((Below.refl _ _).alloc hs5 _).trans b6))
        clear o6 b6
        go_roundw
        case rel => exact ⟨k + 1, by omega, by go_num, by rw [HS.out]; exact HO6.out, HB6.out⟩
        case measure => simp [intOf]; omega
      · have HS := Lib.hid (HN.out (by rw [← hq]; omega))
        clear hq
        go_wp2_with fail
        go_roundw
        case rel => exact ⟨k + 1, by omega, by go_num, by rw [HS.out]; exact HO5.out, HB5.out⟩
        case measure => simp [intOf]; omega
    · obtain rfl : n = k := by omega
      have hki : ¬ (n : Int) < (n : Int) := by omega
      have HO := Lib.hid ho; have HB := Lib.hid hb
      clear ho hb
      go_wp2_with fail
      go_ret2
      exact ⟨_, rfl, HO.out, HB.out⟩
end Go.Proofs.Ytfmedckompdjgaa
