/-
  Chapter 10: the program's reader: a whole table.
-/
import Derived.Test.YtfmedckompdjgaaNE
import Derived.Test.YtfmedckompdjgaaL1
namespace Go.Proofs.Ytfmedckompdjgaa
open Go.RowKit

/-- What a table's reading leaves. -/
def GotT (w : World) (p : Nat) (o : Option (List Nd × List Int)) (e : Ending) (w' : World) : Prop :=
  match o with
  | some (t, r) => ∃ v, e = .returned v ∧ OwnN 64 w' w.heap.size v t ∧ RdrAt w' p r ∧ w.grownBy w' (some p)
  | none => Bad w p e w'
theorem pEnts_none {ys : List Int} {k : Nat} (h : pEnts ys k = none) : ∀ j, pEnts ys (k + j) = none
  | 0 => h
  | j + 1 => by rw [← Nat.add_assoc, pEnts, pEnts_none h j]; rfl
theorem pRead_none {xs : List Int} {k : Nat} (h0 : ¬ xs.length = 0) (h : pEnts (xs.drop 1) k = none) (hk : k ≤ (xs.getD 0 0).toNat) : pRead xs = none := by
  have h1 := pEnts_none h ((xs.getD 0 0).toNat - k)
  rw [show k + ((xs.getD 0 0).toNat - k) = (xs.getD 0 0).toNat from by omega] at h1
  unfold pRead
  rw [if_neg h0, h1]; rfl
theorem pRead_tab {xs : List Int} {t : List Nd} {r : List Int} (h0 : ¬ xs.length = 0) (h : pEnts (xs.drop 1) (xs.getD 0 0).toNat = some (t, r)) : pRead xs = if isTable t = true then some (t, r) else none := by
  unfold pRead
  rw [if_neg h0, h]; rfl
theorem mem_flat_size {t : List Nd} {x : Nd} (h : x ∈ t) : x.name.size ≤ (t.flatMap ndBytes).length := by
  induction t with
  | nil => cases h
  | cons a r ih =>
    rw [List.flatMap_cons, List.length_append]
    rcases List.mem_cons.1 h with rfl | h
    · have := ndBytes_len x; omega
    · have := ih h; omega
theorem pEnts_small {ys : List Int} (hb : ∀ x ∈ ys, 0 ≤ x ∧ x ≤ 255) (hl : ys.length ≤ 1048576) {k : Nat} {t : List Nd} {r : List Int} (h : pEnts ys k = some (t, r)) : smallN t := fun i hi => by
  have h1 := (pEnts_some hb h).1
  have h2 := mem_flat_size (ndOf_mem hi)
  have h3 : ys.length = (t.flatMap ndBytes).length + r.length := by rw [h1, List.length_append]
  omega
def fillT (t : List Nd) (n : Nat) : List Nd := t ++ List.replicate (n - t.length) Nd.zero
theorem fillT_len {t : List Nd} {n : Nat} (h : t.length ≤ n) : (fillT t n).length = n := by unfold fillT; rw [List.length_append, List.length_replicate]; omega
theorem fillT_set {t : List Nd} {n : Nat} (h : t.length < n) (x : Nd) : (fillT t n).set t.length x = fillT (t ++ [x]) n := by
  unfold fillT
  rw [List.set_append_right _ _ (Nat.le_refl _), Nat.sub_self, show n - t.length = (n - (t ++ [x]).length) + 1 from by rw [List.length_append, List.length_singleton]; omega, List.replicate_succ, List.set_cons_zero]
  simp
theorem fillT_full {t : List Nd} : fillT t t.length = t := by unfold fillT; simp
set_option maxHeartbeats 2000000 in
set_option maxRecDepth 100000 in
theorem table_any (p : Nat) (rest : List Int) (w : World) (h : RdrAt w p rest) (hlen : rest.length ≤ 1048576) :
    Calls Try.prog 64 #[.pointer (some ⟨p, 0, none⟩)] w (GotT w p (pRead rest)) := by
  have hby := h.bytes
  by_cases h0 : rest.length = 0
  · have hn : pRead rest = none := by unfold pRead; rw [if_pos h0]
    rw [hn]
    have HC := Lib.hid (number_bad p 1 rest w h (by omega)); clear h hn hby
    go_enter Try.func64, Try.ntmps64
    go_wp2_with fail
    refine HC.out.mono ?_
    rintro e w1 ⟨⟨u, v, rfl⟩, g1⟩
    go_wp2_with fail
    exact ⟨rfl, ⟨_, _, rfl⟩, g1⟩
  have hc0 := number_ok p 1 rest w h (by omega) (by omega)
  rw [byteNum_one (by omega)] at hc0
  obtain ⟨n, hn⟩ : ∃ n : Nat, n = (rest.getD 0 0).toNat := ⟨_, rfl⟩
  have hn4 := bytes_at hby 0
  have hn0 : rest.getD 0 0 = (n : Int) := by omega
  have hn1 : n ≤ 255 := by omega
  rw [hn0] at hc0
  have hnone := fun k (h : pEnts (rest.drop 1) k = none) (hk : k ≤ n) => pRead_none h0 h (by rw [← hn]; exact hk)
  have htab := fun t r (h : pEnts (rest.drop 1) n = some (t, r)) => pRead_tab (t := t) (r := r) h0 (by rw [← hn]; exact h)
  have hby1 : ∀ x ∈ rest.drop 1, 0 ≤ x ∧ x ≤ 255 := byte_drop hby 1
  have hsm := fun k t r (h : pEnts (rest.drop 1) k = some (t, r)) => pEnts_small hby1 (by rw [List.length_drop]; omega) h
  have hls := fun k t r (h : pEnts (rest.drop 1) k = some (t, r)) => (pEnts_some hby1 h).2
  have hpl := h.lt
  have HNONE := Lib.hid hnone; have HTAB := Lib.hid htab; have HSM := Lib.hid hsm; have HLS := Lib.hid hls; have HC := Lib.hid hc0
  clear hnone htab hsm hls hc0 hn4 hn0 hn hby hby1 h
  obtain ⟨ys, hys⟩ : ∃ ys, ys = rest.drop 1 := ⟨_, rfl⟩
  rw [← hys] at HNONE HTAB HSM HLS HC
  have H0 := Lib.hid h0
  clear hys h0
  go_enter Try.func64, Try.ntmps64
  go_wp2_with fail
  refine HC.out.mono ?_
  rintro e w1 ⟨rfl, hR, hG⟩
  have HR1 := Lib.hid hR; have HG1 := Lib.hid hG
  have hp1 : p < w1.heap.size := hR.lt
  clear hR hG HC
  go_wp2_with (at_make; refine make_nd _ rfl _ _ rfl w1.heap.size Try.underlying24 infoNd _ _ _ _ n rfl rfl rfl rfl (by omega) (Nat.le_refl _) ?_; intro w2 o2 b2)
  have o2' : OwnN 64 w2 w1.heap.size (.slice (some ⟨w1.heap.size, 0, none⟩) n n) (fillT [] n) := by
    have e : fillT [] n = List.replicate n Nd.zero := by simp [fillT]
    rw [e]; exact o2
  have hR2 := HR1.out.below b2 hp1
  have hG2 := grown_of_b b2 (some p)
  obtain ⟨G, hGe⟩ : ∃ G, G = w1.heap.size := ⟨_, rfl⟩
  rw [← hGe] at o2' hp1 ⊢
  have HGE := Lib.hid hGe
  clear o2 b2 hGe
  go_loopw [10] (fun i wr => ∃ (k : Nat) (t : List Nd) (r : List Int), k ≤ n ∧ i = .int .i64 k ∧ Hid (pEnts ys k = some (t, r)) ∧ OwnN 64 wr G (.slice (some ⟨G, 0, none⟩) n n) (fillT t n) ∧ RdrAt wr p r ∧ w1.grownBy wr (some p)) (fun i _ => n - (intOf i).toNat)
  case atStart => exact ⟨0, [], ys, Nat.zero_le _, rfl, rfl, o2', hR2, hG2⟩
  case round =>
    clear o2' hR2 hG2
    obtain ⟨k, t, r, hk, rfl, hpe, ho, hR, hG⟩ := hrel
    have htl := HLS.out _ _ _ hpe.out
    have hpe1 : pEnts ys (k + 1) = (pEntry r).map fun q => (t ++ [q.1], q.2) := by rw [pEnts, hpe.out]; rfl
    have HO := Lib.hid ho; have HR := Lib.hid hR; have HG := Lib.hid hG; have HTL := Lib.hid htl; have HPE1 := Lib.hid hpe1
    clear ho hR hG htl hpe1
    by_cases hlt : k < n
    · rcases hok : okEntry r with _ | _
      · have hnn : pRead rest = none := HNONE.out (k + 1) (by rw [HPE1.out]; unfold pEntry; rw [if_neg (by rw [hok]; simp)]; rfl) hlt
        rw [hnn]
        have HCB := Lib.hid (entry_bad p r wr HR.out hok)
        clear hnn
        go_wp2_with fail
        refine HCB.out.mono ?_
        rintro e w3 ⟨⟨u, v, rfl⟩, g3⟩
        have g4 := Lib.hid (grown_trans HG1.out (grown_trans HG.out g3)); clear g3
        go_wp2_with fail
        exact ⟨rfl, ⟨_, _, rfl⟩, g4.out⟩
      · have HCB := Lib.hid (entry_ok p r wr HR.out hok)
        have hpe2 : pEnts ys (k + 1) = some (t ++ [theEntry r], r.drop (5 + (r.getD 4 0).toNat)) := by rw [HPE1.out]; unfold pEntry; rw [if_pos hok]; rfl
        obtain ⟨x, hx⟩ : ∃ x, x = theEntry r := ⟨_, rfl⟩
        obtain ⟨r2, hr2⟩ : ∃ r2, r2 = r.drop (5 + (r.getD 4 0).toNat) := ⟨_, rfl⟩
        rw [← hx, ← hr2] at hpe2 HCB
        have HPE2 := Lib.hid hpe2; clear hpe2 hx hr2 HPE1
        go_wp2_with fail
        refine HCB.out.mono ?_
        rintro e w3 ⟨rfl, hR3, hG3⟩
        unfold ndVal
        have hfl : (fillT t n).length = n := fillT_len (by rw [HTL.out]; omega)
        have hO3 := HO.out.only hG3 (.inr (by simp [Value.ownBlock]; omega))
        have hset := fillT_set (t := t) (n := n) (by rw [HTL.out]; exact hlt) x
        rw [HTL.out] at hset
        obtain ⟨hz, ⟨f0, f1, f2, f3⟩, hst, hbst⟩ := hO3.store hfl hlt x
        rw [hset] at hst
        have HST := Lib.hid hst
        have HR4 := Lib.hid (hR3.below hbst hp1)
        have HG4 := Lib.hid (grown_low (grown_trans HG.out hG3) (by rw [← HGE.out]; exact hbst))
        obtain ⟨z0, z1, z2, z3⟩ := hz
        generalize ndOf (fillT t n) k = z at z0 z1 z2 z3
        clear hst hbst hset hO3 hfl hR3 hG3
        go_wp2_with fail
        clear z0 z1 z2 z3 f0 f1 f2 f3
        go_roundw
        case rel => exact ⟨k + 1, t ++ [x], r2, by omega, by go_num, HPE2.out, HST.out, HR4.out, HG4.out⟩
        case measure => simp [intOf]; omega
    · have hkn : k = n := by omega
      subst hkn
      have ho := HO.out
      have hft : fillT t k = t := by rw [← HTL.out]; exact fillT_full
      rw [hft] at ho
      have HO2 := Lib.hid ho
      obtain ⟨ao', cap', e1, r1, -⟩ := ho.form
      simp only [Value.slice.injEq] at e1
      rw [← e1.1, HTL.out] at r1
      clear e1
      have hcall := isTable_any (some ⟨G, 0, none⟩) k k t wr r1 (Nat.le_refl _) (by omega) (HSM.out _ _ _ hpe.out)
      have HCALL := Lib.hid hcall
      have hpt := HTAB.out t r hpe.out
      clear hcall ho hft r1
      rcases ht : isTable t with _ | _
      · rw [ht] at hpt HCALL
        rw [if_neg (by simp)] at hpt
        rw [hpt]
        have hreq := fun W => require_bad (.pointer (some ⟨p, 0, none⟩)) W p
        go_wp2_with fail
        refine HCALL.out.mono ?_
        rintro e w3 ⟨rfl, b3⟩
        have G3 := Lib.hid (grown_trans HG1.out (grown_trans HG.out (grown_of_b b3 _))); clear b3
        go_wp2_with fail
        refine (hreq _).mono ?_
        rintro e w4 ⟨⟨u, v, rfl⟩, g4⟩
        have G4 := Lib.hid (grown_trans G3.out g4); clear g4
        go_wp2_with fail
        exact ⟨rfl, ⟨_, _, rfl⟩, G4.out⟩
      · rw [ht] at hpt HCALL
        rw [if_pos rfl] at hpt
        have HPT := Lib.hid hpt; clear hpt
        have hreq := fun W => require_ok (.pointer (some ⟨p, 0, none⟩)) W
        go_wp2_with fail
        refine HCALL.out.mono ?_
        rintro e w3 ⟨rfl, b3⟩
        have G3 := Lib.hid (grown_trans HG1.out (grown_trans HG.out (grown_of_b b3 _)))
        have R3 := Lib.hid (HR.out.below b3 HR.out.lt)
        have O3 := Lib.hid ((HO2.out.below b3).more (base' := w.heap.size) (by rw [HGE.out]; exact HG1.out.size)); clear b3
        go_wp2_with fail
        refine (hreq _).mono ?_
        rintro e w4 ⟨rfl, rfl⟩
        go_wp2_with fail
        go_ret
        rw [HPT.out]
        exact ⟨_, rfl, O3.out, R3.out, G3.out⟩
end Go.Proofs.Ytfmedckompdjgaa
