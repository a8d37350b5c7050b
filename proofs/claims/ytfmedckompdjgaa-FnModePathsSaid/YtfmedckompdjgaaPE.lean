/-
  Chapter 11: the program's distances: a map filled by a search by breadth.
-/
import Derived.Test.YtfmedckompdjgaaMS
import Derived.Test.YtfmedckompdjgaaQ1
namespace Go.Proofs.Ytfmedckompdjgaa
open Go.RowKit

/-- Block b of w is a map that holds the graph of f. -/
def MapAt11 (w : World) (b : Nat) (f : Int → Option Int) : Prop := ∃ n, n ≤ 64 ∧ MapIs Try.prog 2 2 w b n f
theorem zero64m (w : World) : (zeroValue 2).run Try.prog w = .ok (.int .i64 0) w := by kernel_rfl
/-- impl's distances.has. -/
theorem hasD_any (b n : Nat) (f : Int → Option Int) (k : Int) (w : World) (hm : MapIs Try.prog 2 2 w b n f) (hk : -9223372036854775808 ≤ k ∧ k ≤ 9223372036854775807) (r : Bool) (hr : (f k).isSome = r) :
    Calls Try.prog 116 #[.map (some b), .int .i64 k] w fun e w' => e = .returned (.bool r) ∧ w = w' := by
  have HM := Lib.hid hm; clear hm
  rcases hf : f k with _ | y
  · have HI := Lib.hid hf
    rw [hf] at hr
    subst hr
    clear hf
    go_enter Try.func116, Try.ntmps116
    go_wp2_with (at_lookup; refine lookup_miss _ rfl _ _ rfl Try.underlying2 Try.underlying2 Try.underlying91 (zero64m _) b n f rfl HM.out k rfl hk HI.out ?_)
    go_ret
    exact ⟨rfl, rfl⟩
  · have HI := Lib.hid hf
    rw [hf] at hr
    subst hr
    clear hf
    go_enter Try.func116, Try.ntmps116
    go_wp2_with (at_lookup; refine lookup_hit _ rfl _ _ rfl Try.underlying2 Try.underlying2 Try.underlying91 (zero64m _) b n f rfl HM.out k y rfl hk HI.out ?_)
    go_ret
    exact ⟨rfl, rfl⟩
theorem own_no11 {E base b : Nat} {w : World} {v : Value} {xs : List Int} (h : Own E w base v xs) (hb : b < base) : v.ownBlock = none ∨ v.ownBlock ≠ some b := by
  rcases hv : v.ownBlock with _ | k
  · exact .inl rfl
  · refine .inr (fun e => ?_)
    have := (h.block k hv).1
    cases e
    omega
theorem getD_app {R : List Int} {y : Int} {k : Nat} (h : k < R.length) : (R ++ [y]).getD k 0 = R.getD k 0 := by
  simp only [List.getD]
  rw [List.getElem?_append_left h]
set_option maxHeartbeats 2000000 in
set_option maxRecDepth 100000 in
/-- impl's distances.fill. -/
theorem fillD_any (b nb : Nat) (f0 : Int → Option Int) (ao : Option Addr) (n cap : Nat) (cs : List Mc) (s : Nat) (w : World) (hm : MapIs Try.prog 2 2 w b nb f0) (hr : RdM w ao n cs) (ht : isModes (mds cs) = true) (hs : s < n) :
    Calls Try.prog 88 #[.map (some b), .slice ao n cap, .int .i64 (s : Int)] w fun e w' => e = .returned (.tuple #[]) ∧ MapAt11 w' b (graphD (mds cs) s) ∧ w.grownBy w' (some b) := by
  have hl : (mds cs).length = n := by rw [mds_len]; exact hr.len
  have hn16 : n ≤ 16 := by have := (isModes_iff.1 ht).1.2; omega
  have hbl := hm.lt
  have hnx := next_in ht
  rw [hl] at hnx
  have HM := Lib.hid hm; have HR := Lib.hid hr; have HT := Lib.hid ht; have HL := Lib.hid hl; have HNX := Lib.hid hnx
  clear hm hr ht hl hnx
  go_enter Try.func88, Try.ntmps88
  go_wp2_with (first
    | (at_mapUpdate; refine store_new _ rfl _ _ _ rfl Try.underlying2 Try.underlying2 Try.underlying91 b 0 _ rfl hm1 (by omega) (s : Int) 0 rfl rfl (by omega) (by omega) ?_; intro w2 hm2 hg2)
    | (refine clear_map _ rfl _ rfl Try.underlying91 b nb f0 rfl HM.out ?_; intro w1 hm1 hg1))
  have hg := grown_trans hg1 hg2
  have hb3 : Below w2.heap.size w2 (w2.alloc (.cells #[.int .i64 (s : Int)] 2)) := (Below.refl _ _).alloc (Nat.le_refl _) _
  have hm3 := hm2.below hb3
  have hsz := hg.size
  have hg3 := grown_low hg (hb3.mono hsz)
  have ho3 : Own 2 (w2.alloc (.cells #[.int .i64 (s : Int)] 2)) w.heap.size (.slice (some ⟨w2.heap.size, 0, none⟩) 1 1) [(s : Int)] := Own.one (s : Int) hsz
  have HM3 := Lib.hid hm3; have HG3 := Lib.hid hg3; have HO3 := Lib.hid ho3
  clear hg hb3 hm3 hsz hg3 ho3 hm1 hg1 hm2 hg2
  go_loopw [6, 7] (fun R i wr => ∃ (k : Nat) (Rl : List Int) (f : Int → Option Int), i = .int .i64 (k : Int) ∧ Hid (Bfs (mds cs) s Rl f k 0) ∧ MapIs Try.prog 2 2 wr b Rl.length f ∧ Own 2 wr w.heap.size R Rl ∧ w.grownBy wr (some b)) (fun _ i _ => n - (intOf i).toNat)
  case atStart => exact ⟨0, [(s : Int)], _, rfl, Bfs.start (by rw [HL.out]; exact hs), HM3.out, HO3.out, HG3.out⟩
  case round =>
    clear HM3 HG3 HO3
    obtain ⟨k, Rl, f, rfl, hB, hm, ho, hg⟩ := hrel
    have hfew := hB.out.few
    rw [HL.out] at hfew
    have hle := hB.out.le
    obtain ⟨ar, cr, rfl, hor, hrr⟩ := ho.get
    by_cases hk : k < Rl.length
    · obtain ⟨g, offr, rfl, hcr⟩ := hrr.here (by omega)
      have ck := hcr k hk
      obtain ⟨d, hfd, hvd, hx0, hxn⟩ := hB.out.small (Rl.getD k 0) (getD_memR hk)
      rw [HL.out] at hxn
      obtain ⟨m, hm0⟩ : ∃ m : Nat, Rl.getD k 0 = (m : Int) := ⟨(Rl.getD k 0).toNat, by omega⟩
      rw [hm0] at ck hxn
      have hmn : m < n := by omega
      have hrw := HM.out.rdM hg HR.out
      obtain ⟨tb, toff, rfl, -, hmc, -⟩ := hrw.at hmn
      have hrd := HR.out.next _ (mcOf_mem (i := m) (by rw [HR.out.len]; exact hmn))
      have hnk : (mdOf (mds cs) m).next = (mcOf cs m).md.next := by rw [mdOf_mds]
      have hny := HNX.out m
      rw [mdOf_mds] at hny
      generalize mcOf cs m = c at hmc hrd hnk hny
      obtain ⟨⟨x0, x1, nx⟩, cao, ccap⟩ := c
      obtain ⟨-, -, d2⟩ := hmc
      obtain ⟨hrn, hln, hcn⟩ := hrd
      simp only at d2 hrn hln hcn hnk hny
      have HRN := Lib.hid hrn; have HNK := Lib.hid hnk; have HNY := Lib.hid hny
      have HB := Lib.hid hB; have HMM := Lib.hid hm; have HO := Lib.hid hor; have HG := Lib.hid hg; have HM0 := Lib.hid hm0
      clear hrn hnk hny hB hm ho hor hg hm0 hrw hcr hrr hfd hvd hx0
      have hki : (k : Int) < (Rl.length : Int) := by omega
      have hmi : (m : Int) < (n : Int) := by omega
      go_wp2_with fail
      clear ck d2
      go_loopw [6, 32] (fun R q wq => ∃ (j : Nat) (R2 : List Int) (f2 : Int → Option Int), q = .int .i64 (j : Int) ∧ j ≤ nx.length ∧ Hid (Bfs (mds cs) s R2 f2 k j ∧ R2.getD k 0 = (m : Int) ∧ k < R2.length) ∧ MapIs Try.prog 2 2 wq b R2.length f2 ∧ Own 2 wq w.heap.size R R2 ∧ w.grownBy wq (some b)) (fun _ q _ => nx.length - (intOf q).toNat)
      case atStart => exact ⟨0, Rl, f, rfl, Nat.zero_le _, ⟨HB.out.out, HM0.out, hk⟩, HMM.out, HO.out, HG.out⟩
      case round =>
        clear HB HMM HO HG HM0
        obtain ⟨j, R2, f2, rfl, hj, hB, hm, ho, hg⟩ := hrel
        have hfew2 := hB.out.1.few
        rw [HL.out] at hfew2
        obtain ⟨ar2, cr2, rfl, hor, -⟩ := ho.get
        clear ho
        have hnk2 : nextOf (mds cs) R2 k = nx := by
          unfold nextOf
          rw [hB.out.2.1, Int.toNat_natCast, HNK.out]
        by_cases hjl : j < nx.length
        · have hrn2 := HM.out.rd hg HRN.out
          obtain ⟨nb2, noff, rfl, hcn2⟩ := hrn2.here (by omega)
          have cj := hcn2 j hjl
          have hyb := HNY.out (nx.getD j 0) (getD_memR hjl)
          have hold := fun h => hB.out.1.old hB.out.2.2 (q := j) (hf := h)
          have hnew := fun h => hB.out.1.new HT.out hB.out.2.2 (by rw [hnk2]; exact hjl) (hf := h)
          rw [hnk2] at hold hnew
          obtain ⟨d, hfd, hvd, hx0, hxn⟩ := hB.out.1.small (R2.getD k 0) (getD_memR hB.out.2.2)
          have hdl := hB.out.1.lim (R2.getD k 0) (getD_memR hB.out.2.2)
          rw [hvd] at hdl
          rw [hB.out.2.1] at hvd hfd hnew
          have hgd := hB.out.2.1
          have hk2 := hB.out.2.2
          obtain ⟨y, hy⟩ : ∃ y, y = nx.getD j 0 := ⟨_, rfl⟩
          rw [← hy] at cj hyb hold hnew
          have HOLD := Lib.hid hold; have HNEW := Lib.hid hnew; have HMM := Lib.hid hm; have HO := Lib.hid hor; have HG := Lib.hid hg; have HVD := Lib.hid hvd; have HGD := Lib.hid hgd; have HBB := Lib.hid hB.out
          have hji : (j : Int) < (nx.length : Int) := by omega
          clear hold hnew hm hor hg hvd hfd hy hgd hnk2 hrn2 hcn2 hB hx0 hxn
          rcases hfy : f2 y with _ | e0
          · have hnw := HNEW.out hfy
            rw [HVD.out] at hnw
            have HNW := Lib.hid hnw
            have HFY := Lib.hid hfy; clear hfy hnw
            have hl2 : R2.length ≤ 4294967296 := by omega
            go_wp2_with (first
              | (go_at_call 116; refine (hasD_any b _ f2 y _ HMM.out (by omega) false (by rw [HFY.out]; rfl)).mono ?_; rintro e w' ⟨rfl, rfl⟩)
              | (at_lookup; refine lookup_val _ rfl _ _ rfl Try.underlying2 Try.underlying2 Try.underlying91 (zero64m _) b _ f2 rfl HMM.out (m : Int) rfl (by omega) (d : Int) HVD.out ?_)
              | (at_mapUpdate; refine store_new _ rfl _ _ _ rfl Try.underlying2 Try.underlying2 Try.underlying91 b R2.length f2 rfl HMM.out (by omega) y ((d : Int) + 1) rfl rfl (by omega) (by omega) ?_; intro w4 hm4 hg4; have HM4 := Lib.hid hm4; have HO4 := Lib.hid (HO.out.only hg4 (own_no11 HO.out hbl)); have HG4 := Lib.hid (grown_trans HG.out hg4); have hs4 : w.heap.size ≤ w4.heap.size := HG4.out.size; clear hm4 hg4)
              | (at_builtin; refine append_one _ rfl (.tmp 46) (.tmp 48) rfl w.heap.size Try.underlying26 info64 _ _ rfl (HO4.out.below ((Below.refl _ _).alloc (Nat.le_refl _) _)) _ _ _ rfl (new_cell rfl) hl2 (by simp; omega) ?_; intro v5 w5 o5 b5))
            have hb5 := ((Below.refl w.heap.size w4).alloc hs4 _).trans b5
            have HM5 := Lib.hid (HM4.out.low hb5 hbl); have HG5 := Lib.hid (grown_low HG4.out hb5); have HO5 := Lib.hid o5
            clear b5 hb5 o5
            go_roundw
            case rel => exact ⟨j + 1, R2 ++ [y], _, by go_num, by omega, ⟨HNW.out, by rw [getD_app hk2]; exact HGD.out, by rw [List.length_append]; omega⟩, by rw [List.length_append]; exact HM5.out, HO5.out, HG5.out⟩
            case measure => simp [intOf]; omega
          · have HFY := Lib.hid hfy; clear hfy
            go_wp2_with (go_at_call 116; refine (hasD_any b _ f2 y _ HMM.out (by omega) true (by rw [HFY.out]; rfl)).mono ?_; rintro e w' ⟨rfl, rfl⟩)
            go_roundw
            case rel => exact ⟨j + 1, R2, f2, by go_num, by omega, ⟨HOLD.out (by rw [HFY.out]; simp), HGD.out, hk2⟩, HMM.out, HO.out, HG.out⟩
            case measure => simp [intOf]; omega
        · have hje : j = nx.length := by omega
          have hji : ¬ (j : Int) < (nx.length : Int) := by omega
          have hturn := hB.out.1.turn hB.out.2.2 (by rw [hnk2]; exact hje)
          have hk2 := hB.out.2.2
          have HTURN := Lib.hid hturn; have HMM := Lib.hid hm; have HO := Lib.hid hor; have HG := Lib.hid hg
          clear hturn hm hor hg hje hB hnk2
          go_wp2_with fail
          go_roundw
          case rel => exact ⟨k + 1, R2, f2, by go_num, HTURN.out, HMM.out, HO.out, HG.out⟩
          case measure => simp [intOf]; omega
    · have hke : k = Rl.length := by omega
      subst hke
      have hfin : f = graphD (mds cs) s := hB.out.end_ HT.out
      have HFIN := Lib.hid hfin; have HMM := Lib.hid hm; have HO := Lib.hid hor; have HG := Lib.hid hg
      clear hfin hm hor hg hB hrr
      go_wp2_with fail
      exact bodyPost_end (v := .tuple #[]) (by simp [results, Try.results88, go_sem]) rfl ⟨rfl, ⟨_, by omega, HFIN.out ▸ HMM.out⟩, HG.out⟩
end Go.Proofs.Ytfmedckompdjgaa
