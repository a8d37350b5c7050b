/-
  Chapter 11: the model's distances.
-/
import Derived.Test.YtfmedckompdjgaaPS1
import Derived.Test.YtfmedckompdjgaaQ2
namespace Go.Proofs.Ytfmedckompdjgaa
open Go.RowKit

set_option maxHeartbeats 2000000 in
set_option maxRecDepth 100000 in
/-- spec.l11Distances. -/
theorem l11Dists_any (ao : Option Addr) (n cap : Nat) (cs : List Mc) (z : Nat) (w : World) (hr : RdM w ao n cs) (ht : isModes (mds cs) = true) (hz : z < n) :
    Calls Try.prog 87 #[.slice ao n cap, .int .i64 (z : Int)] w (Makes 2 w (dists (mds cs) z)) := by
  have hl : (mds cs).length = n := by rw [mds_len]; exact hr.len
  have hn16 : n ≤ 16 := by have := (isModes_iff.1 ht).1.2; omega
  have hfirst : distsAt (mds cs) z 0 0 = (List.replicate (mds cs).length (-1 : Int)).set z 0 := dists_first
  rw [hl] at hfirst
  have HR := Lib.hid hr; have HT := Lib.hid ht; have HL := Lib.hid hl; have HF := Lib.hid hfirst
  clear hr ht hl hfirst
  go_enter Try.func87, Try.ntmps87
  go_wp2_with fail
  go_loopw [5, 6] (fun V i wr => ∃ k : Nat, k ≤ n ∧ i = .int .i64 (k : Int) ∧ Own 2 wr w.heap.size V (List.replicate k (-1 : Int)) ∧ Below w.heap.size w wr) (fun _ i _ => n - (intOf i).toNat)
  case atStart => exact ⟨0, Nat.zero_le _, rfl, Own.of_alloc_nil (Nat.le_refl _), (Below.refl _ _).alloc (Nat.le_refl _) _⟩
  case round =>
    obtain ⟨k, hk, rfl, ho, hb⟩ := hrel
    by_cases hkn : k < n
    · have HO := Lib.hid ho; have HB := Lib.hid hb
      have hki : (k : Int) < (n : Int) := by omega
      have hs : w.heap.size ≤ wr.heap.size := hb.size
      have hll : (List.replicate k (-1 : Int)).length ≤ 4294967296 := by rw [List.length_replicate]; omega
      clear ho hb
      go_wp2_with (at_builtin; refine append_one _ rfl (.tmp 17) (.tmp 18) rfl w.heap.size Try.underlying26 info64 _ _ rfl (HO.out.below ((Below.refl _ _).alloc (Nat.le_refl _) _)) _ _ _ rfl (new_cell rfl) hll (by simp; omega) ?_; intro v5 w5 o5 b5)
      have HO5 := Lib.hid o5; have HB5 := Lib.hid (HB.out.trans (((Below.refl _ _).alloc hs _).trans b5))
      clear o5 b5
      go_roundw
      case rel => exact ⟨k + 1, by omega, by go_num, by rw [List.replicate_succ']; exact HO5.out, HB5.out⟩
      case measure => simp [intOf]; omega
    · obtain rfl : n = k := by omega
      have hki : ¬ (n : Int) < (n : Int) := by omega
      obtain ⟨vo, vc, e, -, -, -, hcase⟩ := ho.form
      subst e
      rw [List.length_replicate] at ho hcase ⊢
      rcases hcase with hnil | ⟨g, rfl, hgb, hgl⟩
      · simp only [Value.slice.injEq] at hnil; omega
      obtain ⟨hdst, hfz, ho2, hb2⟩ := own_store ho (List.length_replicate ..) hz 0
      rw [← HF.out] at ho2
      have HO := Lib.hid ho2; have HB := Lib.hid (hb.trans hb2)
      clear ho ho2 hb hb2
      go_wp2_with fail
      clear hdst hfz
      generalize wr.setCell _ _ = w2 at HO HB ⊢
      go_loopw [7] (fun D wd => ∃ d : Nat, d ≤ n ∧ D = .int .i64 (d : Int) ∧ Own 2 wd w.heap.size (.slice (some ⟨g, 0, none⟩) n vc) (distsAt (mds cs) z d 0) ∧ Below w.heap.size w wd) (fun D _ => n - (intOf D).toNat)
      case atStart => exact ⟨0, Nat.zero_le _, rfl, HO.out, HB.out⟩
      case round =>
        clear HO HB
        obtain ⟨d, hd, rfl, ho, hb⟩ := hrel
        have HO := Lib.hid ho; have HB := Lib.hid hb
        clear ho hb
        by_cases hdn : d < n
        · have hdi : (d : Int) < (n : Int) := by omega
          go_wp2_with fail
          go_loopw [8] (fun I wi => ∃ i : Nat, i ≤ n ∧ I = .int .i64 (i : Int) ∧ Own 2 wi w.heap.size (.slice (some ⟨g, 0, none⟩) n vc) (distsAt (mds cs) z d i) ∧ Below w.heap.size w wi) (fun I _ => n - (intOf I).toNat)
          case atStart => exact ⟨0, Nat.zero_le _, rfl, HO.out, HB.out⟩
          case round =>
            clear HO HB
            obtain ⟨i, hi, rfl, ho, hb⟩ := hrel
            have HO := Lib.hid ho; have HB := Lib.hid hb
            clear ho hb
            by_cases hin : i < n
            · have hii : (i : Int) < (n : Int) := by omega
              have hit : i < (mds cs).length := by rw [HL.out]; exact hin
              obtain ⟨tb, toff, rfl, htb, hmc, -⟩ := HR.out.at hin
              have hrd := (HR.out.next _ (mcOf_mem (i := i) (by rw [HR.out.len]; exact hin))).rd
              have hnl : (mcOf cs i).md.next.length ≤ 16 := by
                have := rises_len (modes_md HT.out (mdOf_mem (t := mds cs) (i := i) hit)).2.2
                rw [mdOf_mds, HL.out] at this
                omega
              have hny := next_in HT.out i
              have hstop := fun (L : List Int) (k : Nat) (h : Look (mds cs) z d i L k) => h.stop HT.out hit
              have hhit := fun (L : List Int) (k : Nat) (h : Look (mds cs) z d i L k) => h.hit HT.out hit
              have hmiss := fun (L : List Int) (k : Nat) (h : Look (mds cs) z d i L k) => h.miss HT.out hit
              rw [mdOf_mds] at hny hstop hhit hmiss
              rw [HL.out] at hny
              generalize mcOf cs i = x at hmc hrd hnl hny hstop hhit hmiss
              obtain ⟨⟨x0, x1, nx⟩, cao, ccap⟩ := x
              obtain ⟨-, -, d2⟩ := hmc
              simp only at d2 hrd hnl hny hstop hhit hmiss
              have D2 := Lib.hid d2; have HRD := Lib.hid hrd; have HNY := Lib.hid hny; have HST := Lib.hid hstop; have HHI := Lib.hid hhit; have HMI := Lib.hid hmiss
              clear d2 hrd hny hstop hhit hmiss
              go_wp2_with fail
              go_loopw [9] (fun K wk => ∃ (k : Nat) (L : List Int), k ≤ nx.length ∧ K = .int .i64 (k : Int) ∧ Hid (Look (mds cs) z d i L k) ∧ Own 2 wk w.heap.size (.slice (some ⟨g, 0, none⟩) n vc) L ∧ Below w.heap.size w wk) (fun K _ => nx.length - (intOf K).toNat)
              case atStart => exact ⟨0, _, Nat.zero_le _, rfl, Look.start, HO.out, HB.out⟩
              case round =>
                clear HO HB
                obtain ⟨k, L, hk, rfl, hL, ho, hb⟩ := hrel
                have hLl : L.length = n := by rw [hL.out.len, HL.out]
                have ci := (own_store ho hLl hin 0).1
                have d2 := (hb.cell (p := ⟨tb, toff + i * 3 + 2, none⟩) htb).trans D2.out
                by_cases hkn : k < nx.length
                · have hki : (k : Int) < (nx.length : Int) := by omega
                  by_cases hneg : L.getD i 0 < 0
                  · have hyb := HNY.out (nx.getD k 0) (by rw [List.getD_eq_getElem?_getD, List.getElem?_eq_getElem hkn]; exact List.getElem_mem hkn)
                    obtain ⟨y, hy⟩ : ∃ y : Nat, nx.getD k 0 = (y : Int) := ⟨(nx.getD k 0).toNat, by omega⟩
                    rw [hy] at hyb
                    have hyn : y < n := by omega
                    obtain ⟨xb, xoff, hxe, hcx⟩ := (HRD.out.below hb).here (by omega)
                    subst hxe
                    have ck := hcx k hkn
                    rw [hy] at ck
                    have cy := (own_store ho hLl hyn 0).1
                    have hh := HHI.out L k hL.out hneg hkn
                    have hm := HMI.out L k hL.out hneg hkn
                    rw [hy, Int.toNat_natCast] at hh hm
                    obtain ⟨fz, o2, b2⟩ := (own_store ho hLl hin ((d : Int) + 1)).2
                    obtain ⟨p, hp⟩ : ∃ p, p = L.getD i 0 := ⟨_, rfl⟩
                    obtain ⟨q, hq⟩ : ∃ q, q = L.getD y 0 := ⟨_, rfl⟩
                    rw [← hp] at ci hneg
                    rw [← hq] at cy hh hm
                    have HO := Lib.hid ho; have HB := Lib.hid hb; have HHH := Lib.hid hh; have HMM := Lib.hid hm; have HO2 := Lib.hid o2; have HB2 := Lib.hid (hb.trans b2)
                    clear ho hb hh hm o2 b2 hcx hy hp hq hL
                    by_cases hqd : q = (d : Int)
                    · subst hqd
                      go_wp2_with fail
                      go_roundw
                      case rel => exact ⟨k + 1, _, by omega, by go_num, HHH.out rfl, HO2.out, HB2.out⟩
                      case measure => simp [intOf]; omega
                    · have hqb : (q == (d : Int)) = false := by simp [hqd]
                      clear fz HO2 HB2
                      go_wp2_with fail
                      go_roundw
                      case rel => exact ⟨k + 1, _, by omega, by go_num, HMM.out hqd, HO.out, HB.out⟩
                      case measure => simp [intOf]; omega
                  · have HS := Lib.hid (HST.out L k hL.out (.inl (by omega)))
                    obtain ⟨p, hp⟩ : ∃ p, p = L.getD i 0 := ⟨_, rfl⟩
                    rw [← hp] at ci hneg
                    have HO := Lib.hid ho; have HB := Lib.hid hb
                    clear ho hb hp hL
                    go_wp2_with fail
                    go_roundw
                    case rel => exact ⟨i + 1, by omega, by go_num, HS.out ▸ HO.out, HB.out⟩
                    case measure => simp [intOf]; omega
                · have hke : k = nx.length := by omega
                  have HS := Lib.hid (HST.out L k hL.out (.inr (by omega)))
                  have hki : ¬ (k : Int) < (nx.length : Int) := by omega
                  have HO := Lib.hid ho; have HB := Lib.hid hb
                  clear ho hb hL ci hke
                  go_wp2_with fail
                  go_roundw
                  case rel => exact ⟨i + 1, by omega, by go_num, HS.out ▸ HO.out, HB.out⟩
                  case measure => simp [intOf]; omega
            · have hii : ¬ (i : Int) < (n : Int) := by omega
              have hie : i = (mds cs).length := by rw [HL.out]; omega
              go_wp2_with fail
              go_roundw
              case rel => exact ⟨d + 1, by omega, by go_num, by rw [← distsAt_end, ← hie]; exact HO.out, HB.out⟩
              case measure => simp [intOf]; omega
        · have hdi : ¬ (d : Int) < (n : Int) := by omega
          have hde : d = (mds cs).length := by rw [HL.out]; omega
          go_wp2_with fail
          go_ret
          exact ⟨_, rfl, by rw [dists, ← hde]; exact HO.out, HB.out⟩
end Go.Proofs.Ytfmedckompdjgaa
