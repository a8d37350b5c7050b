/-
  Chapter 11: the program's reader: a table of modes.
-/
import Derived.Test.YtfmedckompdjgaaMF
namespace Go.Proofs.Ytfmedckompdjgaa
open Go.RowKit

theorem mode_any (p : Nat) (ys : List Int) (w : World) (h : RdrAt w p ys) (hl : ys.length ≤ 1048576) :
    Calls Try.prog 112 #[.pointer (some ⟨p, 0, none⟩)] w (GotMd w p (pMd ys)) := by
  unfold pMd
  by_cases h1 : ys.length < 1
  · rw [if_pos h1]; exact mode_bad1 p ys w h h1
  rw [if_neg h1]
  by_cases h2 : (ys.drop 1).length < 1
  · rw [if_pos h2]; exact mode_bad2 p ys w h h1 h2
  rw [if_neg h2]
  by_cases h3 : ((ys.drop 1).drop 1).length < 1
  · rw [if_pos h3]; exact mode_bad3 p ys w h h1 h2 h3
  rw [if_neg h3]
  by_cases h4 : (((ys.drop 1).drop 1).drop 1).length < (((ys.drop 1).drop 1).getD 0 0).toNat
  · rw [if_pos h4]; exact mode_bad4 p ys w h h1 h2 h3 h4
  rw [if_neg h4]
  exact mode_ok p ys w h h1 h2 h3 h4 hl
/-- What a table's reading leaves. -/
def GotMs (w : World) (p : Nat) (o : Option (List Md × List Int)) (e : Ending) (w' : World) : Prop :=
  match o with
  | some (t, r) => ∃ v, e = .returned v ∧ OwnMs 81 2 w' w.heap.size v t ∧ RdrAt w' p r ∧ w.grownBy w' (some p)
  | none => Bad w p e w'
set_option maxHeartbeats 2000000 in
set_option maxRecDepth 100000 in
theorem modes_any (p : Nat) (rest : List Int) (w : World) (h : RdrAt w p rest) (hlen : rest.length ≤ 1048576) :
    Calls Try.prog 76 #[.pointer (some ⟨p, 0, none⟩)] w (GotMs w p (pModes rest)) := by
  have hby := h.bytes
  by_cases h0 : rest.length < 1
  · have hn : pModes rest = none := by unfold pModes; rw [if_pos h0]
    rw [hn]
    have HC := Lib.hid (number_bad p 1 rest w h (by omega)); clear h hn hby
    go_enter Try.func76, Try.ntmps76
    go_wp2_with fail
    refine HC.out.mono ?_
    rintro e w1 ⟨⟨u, v, rfl⟩, g1⟩
    go_wp2_with fail
    exact ⟨rfl, ⟨_, _, rfl⟩, g1⟩
  have hc0 := number_ok p 1 rest w h (by omega) (by omega)
  rw [byteNum_one (by omega)] at hc0
  obtain ⟨n, hn⟩ : ∃ n : Nat, n = (rest.getD 0 0).toNat := ⟨_, rfl⟩
  have hn4 := bytes_at_ hby 0
  have hn0 : rest.getD 0 0 = (n : Int) := by omega
  have hn1 : n ≤ 255 := by omega
  rw [hn0] at hc0
  have hnone := fun k (h : pMds (rest.drop 1) k = none) (hk : k ≤ n) => pModes_none h0 h (by rw [← hn]; exact hk)
  have htab := fun t r (h : pMds (rest.drop 1) n = some (t, r)) => pModes_tab (t := t) (r := r) h0 (by rw [← hn]; exact h)
  have hls := fun k t r (h : pMds (rest.drop 1) k = some (t, r)) => pMds_len h
  have hyl : (rest.drop 1).length ≤ 1048576 := by rw [List.length_drop]; omega
  have hpl := h.lt
  have HNONE := Lib.hid hnone; have HTAB := Lib.hid htab; have HLS := Lib.hid hls; have HC := Lib.hid hc0
  clear hnone htab hls hc0 hn4 hn0 hn hby h
  obtain ⟨ys, hys⟩ : ∃ ys, ys = rest.drop 1 := ⟨_, rfl⟩
  rw [← hys] at HNONE HTAB HLS HC hyl
  have H0 := Lib.hid h0
  have HYL := Lib.hid hyl
  clear hys h0 hyl
  go_enter Try.func76, Try.ntmps76
  go_wp2_with fail
  refine HC.out.mono ?_
  rintro e w1 ⟨rfl, hR, hG⟩
  have HR1 := Lib.hid hR; have HG1 := Lib.hid hG
  have hp1 : p < w1.heap.size := hR.lt
  clear hR hG HC
  go_wp2_with (at_make; refine make_md (EI := 2) _ rfl _ _ rfl w1.heap.size Try.underlying35 infoMd _ _ _ _ n rfl rfl rfl rfl (by omega) (Nat.le_refl _) ?_; intro w2 o2 b2)
  have o2' : OwnM 81 2 w2 w1.heap.size (.slice (some ⟨w1.heap.size, 0, none⟩) n n) (fillM [] n) := by
    have e : fillM [] n = List.replicate n Mc.zero := by simp [fillM]
    rw [e]; exact o2
  have hR2 := HR1.out.below b2 hp1
  have hG2 := grown_of_b b2 (some p)
  obtain ⟨G, hGe⟩ : ∃ G, G = w1.heap.size := ⟨_, rfl⟩
  rw [← hGe] at o2' hp1 ⊢
  have HGE := Lib.hid hGe
  clear o2 b2 hGe
  go_loopw [10] (fun i wr => ∃ (k : Nat) (ds : List Mc) (r : List Int), k ≤ n ∧ i = .int .i64 k ∧ Hid (pMds ys k = some (mds ds, r)) ∧ OwnM 81 2 wr G (.slice (some ⟨G, 0, none⟩) n n) (fillM ds n) ∧ RdrAt wr p r ∧ w1.grownBy wr (some p)) (fun i _ => n - (intOf i).toNat)
  case atStart => exact ⟨0, [], ys, Nat.zero_le _, rfl, rfl, o2', hR2, hG2⟩
  case round =>
    clear o2' hR2 hG2
    obtain ⟨k, ds, r, hk, rfl, hpe, ho, hR, hG⟩ := hrel
    obtain ⟨htl, hrl, hsm⟩ := HLS.out _ _ _ hpe.out
    rw [mds_len] at htl
    have hpe1 : pMds ys (k + 1) = (pMd r).map fun q => (mds ds ++ [q.1], q.2) := by rw [pMds, hpe.out]; rfl
    have HO := Lib.hid ho; have HR := Lib.hid hR; have HG := Lib.hid hG; have HTL := Lib.hid htl; have HPE1 := Lib.hid hpe1; have HSM := Lib.hid hsm
    have hrl2 : r.length ≤ 1048576 := Nat.le_trans hrl HYL.out
    clear ho hR hG htl hpe1 hsm hrl
    by_cases hlt : k < n
    · have HCB := Lib.hid (mode_any p r wr HR.out hrl2)
      rcases hok : pMd r with _ | ⟨x, r2⟩
      · have hnn : pModes rest = none := HNONE.out (k + 1) (by rw [HPE1.out, hok]; rfl) hlt
        rw [hnn]
        rw [hok] at HCB
        clear hnn
        go_wp2_with fail
        refine HCB.out.mono ?_
        rintro e w3 ⟨⟨u, v, rfl⟩, g3⟩
        have g4 := Lib.hid (grown_trans HG1.out (grown_trans HG.out g3)); clear g3
        go_wp2_with fail
        exact ⟨rfl, ⟨_, _, rfl⟩, g4.out⟩
      · have hpe2 : pMds ys (k + 1) = some (mds ds ++ [x], r2) := by rw [HPE1.out, hok]; rfl
        rw [hok] at HCB
        have HPE2 := Lib.hid hpe2; clear hpe2 HPE1 hok
        go_wp2_with fail
        refine HCB.out.mono ?_
        rintro e w3 ⟨c, hcm, rfl, oc, hR3, hG3⟩
        unfold mcVal
        have hfl : (fillM ds n).length = n := fillM_len (by rw [HTL.out]; omega)
        have hO3 := HO.out.old hG3 (show p < G from hp1)
        have hset := fillM_set (t := ds) (n := n) (by rw [HTL.out]; exact hlt) c
        rw [HTL.out] at hset
        have hwz : G ≤ wr.heap.size := by rw [HGE.out]; exact HG.out.size
        obtain ⟨hz, ⟨f0, f1, f2⟩, hst, hbst⟩ := hO3.store ne_md hfl hlt c (oc.more hwz) (HO.out.fresh oc)
        rw [hset] at hst
        have HST := Lib.hid hst
        have HR4 := Lib.hid (hR3.below hbst hp1)
        have HG4 := Lib.hid (grown_low (grown_trans HG.out hG3) (by rw [← HGE.out]; exact hbst))
        have HMD := Lib.hid (show mds (ds ++ [c]) = mds ds ++ [x] by unfold mds; rw [List.map_append, List.map_singleton, hcm])
        obtain ⟨z0, z1, z2⟩ := hz
        generalize mcOf (fillM ds n) k = z at z0 z1 z2
        clear hst hbst hset hO3 hfl hR3 hG3 hcm oc hwz
        go_wp2_with fail
        clear z0 z1 z2 f0 f1 f2
        go_roundw
        case rel => exact ⟨k + 1, ds ++ [c], r2, by omega, by go_num, by rw [HMD.out]; exact HPE2, HST.out, HR4.out, HG4.out⟩
        case measure => simp [intOf]; omega
    · have hkn : k = n := by omega
      subst hkn
      have ho := HO.out
      have hft : fillM ds k = ds := by rw [← HTL.out]; exact fillM_full
      rw [hft] at ho
      have HO2 := Lib.hid ho
      obtain ⟨ao', cap', e1, r1, -⟩ := ho.form
      simp only [Value.slice.injEq] at e1
      rw [← e1.1, HTL.out] at r1
      clear e1
      have hcall := isModesI_any (some ⟨G, 0, none⟩) k k ds wr r1 (by omega) (fun c hc => by have := HSM.out c.md (List.mem_map_of_mem hc); have := HYL.out; omega)
      have HCALL := Lib.hid hcall
      have hpt := HTAB.out (mds ds) r hpe.out
      clear hcall ho hft r1
      rcases ht : isModes (mds ds) with _ | _
      · rw [ht] at hpt HCALL
        rw [if_neg (by simp)] at hpt
        rw [hpt]
        have hreq := fun W => require_bad (.pointer (some ⟨p, 0, none⟩)) W p
        go_wp2_with fail
        refine HCALL.out.mono ?_
        rintro e w3 ⟨rfl, b3⟩
        have G3 := Lib.hid (grown_trans HG1.out (grown_trans HG.out (grown_of_b b3 _))); clear b3
        go_wp2_with fail
        refine (hreq _).mono ?_
        rintro e w4 ⟨⟨u, v, rfl⟩, g4⟩
        have G4 := Lib.hid (grown_trans G3.out g4); clear g4
        go_wp2_with fail
        exact ⟨rfl, ⟨_, _, rfl⟩, G4.out⟩
      · rw [ht] at hpt HCALL
        rw [if_pos rfl] at hpt
        have HPT := Lib.hid hpt; clear hpt
        have hreq := fun W => require_ok (.pointer (some ⟨p, 0, none⟩)) W
        go_wp2_with fail
        refine HCALL.out.mono ?_
        rintro e w3 ⟨rfl, b3⟩
        have G3 := Lib.hid (grown_trans HG1.out (grown_trans HG.out (grown_of_b b3 _)))
        have O3 := Lib.hid (HO2.out.below b3)
        have R3 := Lib.hid (HR.out.below b3 HR.out.lt)
        clear b3
        go_wp2_with fail
        refine (hreq _).mono ?_
        rintro e w4 ⟨rfl, rfl⟩
        go_wp2_with fail
        go_ret
        rw [HPT.out]
        exact ⟨_, rfl, ⟨ds, rfl, O3.out.more (by rw [HGE.out]; exact HG1.out.size)⟩, R3.out, G3.out⟩
end Go.Proofs.Ytfmedckompdjgaa
