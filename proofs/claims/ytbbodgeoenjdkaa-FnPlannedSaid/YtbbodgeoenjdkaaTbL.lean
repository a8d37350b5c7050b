/-
  The laws' functions on slices of slices of numbers: compared, marked, found again.
-/
import Derived.Test.YtbbodgeoenjdkaaTb
import Derived.Test.YtbbodgeoenjdkaaOne
import Derived.Deep.RegionHeld3
import Derived.Deep.Cut
import Derived.Handy
namespace Go.Proofs.Ytbbodgeoenjdkaa
open Go.RowKit

/-- Small enough for marks. -/
def smallT (t : List (List Int)) : Prop := t.length ≤ 1048576 ∧ (t.map List.length).sum ≤ 1048576
def totR (rs : List Rw) : Nat := (rs.map fun c => c.xs.length).sum
theorem totR_rwx (rs : List Rw) : totR rs = ((rwx rs).map List.length).sum := by unfold totR rwx; rw [List.map_map]; rfl
theorem totR_cons (c : Rw) (r : List Rw) : totR (c :: r) = c.xs.length + totR r := by simp [totR]
theorem totR_append (a b : List Rw) : totR (a ++ b) = totR a + totR b := by simp [totR]
theorem totR_take {rs : List Rw} {k : Nat} (h : k < rs.length) : totR (rs.take (k + 1)) = totR (rs.take k) + (rwOf rs k).xs.length := by
  rw [List.take_succ_eq_append_getElem h, totR_append, rwOf_get h]; simp [totR]
theorem totR_le {rs : List Rw} (k : Nat) : totR (rs.take k) ≤ totR rs := by
  have := totR_append (rs.take k) (rs.drop k)
  rw [List.take_append_drop] at this
  omega
theorem totR_at {rs : List Rw} {k : Nat} (h : k < rs.length) : (rwOf rs k).xs.length ≤ totR rs := by
  have h1 := totR_take h
  have h2 := totR_le (rs := rs) (k + 1)
  omega
def markRs : Int → List Rw → List Rw
  | _, [] => []
  | q, c :: r => ⟨marks q c.xs.length, c.ao, c.cap⟩ :: markRs (q + c.xs.length) r
theorem markRs_len : ∀ (q : Int) (rs : List Rw), (markRs q rs).length = rs.length
  | _, [] => rfl
  | q, c :: r => by rw [markRs, List.length_cons, List.length_cons, markRs_len]
theorem markRs_append : ∀ (a b : List Rw) (q : Int), markRs q (a ++ b) = markRs q a ++ markRs (q + totR a) b
  | [], b, q => by simp [markRs, totR]
  | c :: r, b, q => by
    rw [List.cons_append, markRs, markRs, markRs_append r b, totR_cons, List.cons_append]
    rw [show q + ((c.xs.length + totR r : Nat) : Int) = q + c.xs.length + totR r from by omega]
theorem markRs_v : ∀ (q : Int) (rs : List Rw), (markRs q rs).map Rw.v = rs.map Rw.v
  | _, [] => rfl
  | q, c :: r => by
    rw [markRs, List.map_cons, List.map_cons, markRs_v]
    congr 1
    unfold Rw.v
    rw [marks_len]
def markRTo (q : Int) (rs : List Rw) (k : Nat) : List Rw := markRs q (rs.take k) ++ rs.drop k
theorem markRTo_zero (q : Int) (rs : List Rw) : markRTo q rs 0 = rs := by simp [markRTo, markRs]
theorem markRTo_all (q : Int) (rs : List Rw) : markRTo q rs rs.length = markRs q rs := by simp [markRTo]
theorem markRTo_v (q : Int) (rs : List Rw) (k : Nat) : (markRTo q rs k).map Rw.v = rs.map Rw.v := by
  unfold markRTo
  rw [List.map_append, markRs_v, ← List.map_append, List.take_append_drop]
theorem markRTo_len (q : Int) (rs : List Rw) (k : Nat) : (markRTo q rs k).length = rs.length := by
  have := congrArg List.length (markRTo_v q rs k)
  simpa using this
theorem markRTo_split (q : Int) {rs : List Rw} {k : Nat} (h : k < rs.length) : markRTo q rs k = markRs q (rs.take k) ++ (rwOf rs k :: rs.drop (k + 1)) := by
  unfold markRTo
  rw [List.drop_eq_getElem_cons h, rwOf_get h]
theorem markRTo_next (q : Int) {rs : List Rw} {k : Nat} (h : k < rs.length) : markRTo q rs (k + 1) = markRs q (rs.take k) ++ (⟨marks (q + totR (rs.take k)) (rwOf rs k).xs.length, (rwOf rs k).ao, (rwOf rs k).cap⟩ :: rs.drop (k + 1)) := by
  unfold markRTo
  rw [List.take_succ_eq_append_getElem h, markRs_append, rwOf_get h, List.append_assoc]
  rfl
theorem markRs_at (q : Int) {rs : List Rw} {k : Nat} (h : k < rs.length) : rwOf (markRs q rs) k = ⟨marks (q + totR (rs.take k)) (rwOf rs k).xs.length, (rwOf rs k).ao, (rwOf rs k).cap⟩ := by
  have e : markRs q rs = markRs q (rs.take k) ++ markRs (q + totR (rs.take k)) (rs.drop k) := by rw [← markRs_append, List.take_append_drop]
  have hl : (markRs q (rs.take k)).length = k := by rw [markRs_len, List.length_take]; omega
  rw [e, List.drop_eq_getElem_cons h, markRs, rwOf_get h]
  unfold rwOf List.getD
  rw [List.getElem?_append_right (by omega), hl, Nat.sub_self]
  rfl
/-! ### compared -/
set_option maxHeartbeats 1000000 in
set_option maxRecDepth 100000 in
set_option linter.unusedSimpArgs false in
/-- laws.eqInt64SS of two that say the same. -/
theorem eqRows_two (ao bo : Option Addr) (c d : Nat) (rs ss : List Rw) (w : World) (hx : RdT w ao rs.length rs) (hy : RdT w bo ss.length ss) (he : rwx rs = rwx ss) (hs : smallT (rwx rs)) :
    Calls Try.prog 41 #[.slice ao rs.length c, .slice bo ss.length d] w fun e w' => e = .returned (.bool true) ∧ Below w.heap.size w w' := by
  have hls : ss.length = rs.length := by rw [← rwx_len, ← he, rwx_len]
  have HXL := Lib.hid (fun k (hk : k < rs.length) => (show (rwOf ss k).xs = (rwOf rs k).xs from by rw [rwOf_x (by omega), rwOf_x hk, he]))
  have htot := hs.2
  rw [← totR_rwx] at htot
  have HAT := Lib.hid (fun k (hk : k < rs.length) => totR_at (rs := rs) hk)
  have hn := hs.1
  rw [rwx_len] at hn
  rw [hls] at hy ⊢
  have HX := Lib.hid hx; have HY := Lib.hid hy
  clear hx hy hls hs he
  generalize rs.length = n at HX HY HXL HAT hn ⊢
  have hne : ((n : Int) != (n : Int)) = false := by simp
  go_enter Try.func41, Try.ntmps41
  go_wp2_with fail
  clear hne
  go_loopw [5] (fun i wr => ∃ k : Nat, k ≤ n ∧ i = .int .i64 k ∧ Below w.heap.size w wr) (fun i _ => n - (intOf i).toNat)
  case atStart => exact ⟨0, Nat.zero_le _, rfl, Below.refl _ _⟩
  case round =>
    obtain ⟨k, hk, rfl, hb⟩ := hrel
    by_cases hlt : k < n
    · obtain ⟨g, off, rfl, -, -⟩ := HX.out.at hlt
      obtain ⟨g', off', rfl, -, -⟩ := HY.out.at hlt
      have HB := Lib.hid hb; clear hb
      have HXW := Lib.hid (fun W (hW : Below wr.heap.size wr W) => (HX.out.below (below_two HB.out hW)).at hlt)
      have HYW := Lib.hid (fun W (hW : Below wr.heap.size wr W) => (HY.out.below (below_two HB.out hW)).at hlt)
      have hxl := HXL.out k hlt
      have hat := HAT.out k hlt
      have HLL := Lib.hid (show (rwOf ss k).xs.length = (rwOf rs k).xs.length from by rw [hxl])
      have HXE := Lib.hid hxl
      clear hxl
      generalize rwOf rs k = a at HXW HXE HLL hat
      generalize rwOf ss k = b at HYW HXE HLL
      have hal : a.xs.length ≤ 1048576 := by omega
      have HD := Lib.hid (show Below wr.heap.size wr wr.drew from Below.drew (Below.refl _ _))
      have HCX := Lib.hid (fun W (hW : Below wr.heap.size wr W) => (show W.cell? ⟨g, off + k, none⟩ = some (.slice a.ao a.xs.length a.cap) from by
        obtain ⟨b1, o1, e1, -, hc, -⟩ := HXW.out W hW
        cases e1; exact hc))
      have HCY := Lib.hid (fun W (hW : Below wr.heap.size wr W) => (show W.cell? ⟨g', off' + k, none⟩ = some (.slice b.ao b.xs.length b.cap) from by
        obtain ⟨b1, o1, e1, -, hc, -⟩ := HYW.out W hW
        cases e1; exact hc))
      have HCALL := Lib.hid (fun W (hW : Below wr.heap.size wr W) => (show Calls Try.prog 70 #[.slice a.ao a.xs.length a.cap, .slice b.ao b.xs.length b.cap] W (fun e w' => e = .returned (.bool true) ∧ Below W.heap.size W w') from by
        obtain ⟨b1, o1, e1, h1, h2, hr1⟩ := HXW.out W hW
        obtain ⟨b2, o2, e2, h3, h4, hr2⟩ := HYW.out W hW
        have h5 := hr2.rd
        rw [HXE.out] at h5
        rw [HLL.out]
        exact eq_yes a.ao b.ao a.xs.length a.xs.length a.cap b.cap a.xs W hr1.rd h5 (by omega)))
      clear hat hal
      go_upto_region 6 with fail
      refine wp_region_held_drew (S := fun w' => w'.cell? ⟨g, off + k, none⟩ = some (Value.slice a.ao a.xs.length a.cap) ∧ w'.cell? ⟨g', off' + k, none⟩ = some (Value.slice b.ao b.xs.length b.cap)) (by kernel_rfl) (⟨HCX.out _ HD.out, HCY.out _ HD.out⟩) (fun hHeld => ?_)
      generalize wr.drew = w1 at HD hHeld ⊢
      refine wpAnyH_take (i := 0) (v := ?_) rfl (by kernel_rfl) (by kernel_rfl) (by kernel_rfl) (fun _ _ _ h => h) (Or.inl ⟨by rfl, ?_⟩) (by assumption) ?_
      rotate_left
      · (intro w hSw; (try dsimp only at hSw); go_simp; (try with_reducible rfl))
      try simp only [List.getElem_toArray, List.getElem_cons_succ, List.getElem_cons_zero, Act.put, List.setIfInBounds_toArray, List.set_cons_zero, List.set_cons_succ]
      refine wpAnyH_take (i := 1) (v := ?_) rfl (by kernel_rfl) (by kernel_rfl) (by kernel_rfl) (fun _ _ _ h => h) (Or.inl ⟨by rfl, ?_⟩) (by assumption) ?_
      rotate_left
      · (intro w hSw; (try dsimp only at hSw); go_simp; (try with_reducible rfl))
      try simp only [List.getElem_toArray, List.getElem_cons_succ, List.getElem_cons_zero, Act.put, List.setIfInBounds_toArray, List.set_cons_zero, List.set_cons_succ]
      refine wpAnyH_take (i := 2) (v := ?_) rfl (by kernel_rfl) (by kernel_rfl) (by kernel_rfl) (fun _ _ _ h => h) (Or.inl ⟨by rfl, ?_⟩) (by assumption) ?_
      rotate_left
      · (intro w hSw; (try dsimp only at hSw); go_simp; (try with_reducible rfl))
      try simp only [List.getElem_toArray, List.getElem_cons_succ, List.getElem_cons_zero, Act.put, List.setIfInBounds_toArray, List.set_cons_zero, List.set_cons_succ]
      refine wpAnyH_take (i := 3) (v := ?_) rfl (by kernel_rfl) (by kernel_rfl) (by kernel_rfl) (fun _ _ _ h => h) (Or.inl ⟨by rfl, ?_⟩) (by assumption) ?_
      rotate_left
      · (intro w hSw; (try dsimp only at hSw); go_simp; (try with_reducible rfl))
      try simp only [List.getElem_toArray, List.getElem_cons_succ, List.getElem_cons_zero, Act.put, List.setIfInBounds_toArray, List.set_cons_zero, List.set_cons_succ]
      refine wpAnyH_take (i := 4) (v := ?_) rfl (by kernel_rfl) (by kernel_rfl) (by kernel_rfl) (fun _ _ _ h => h) (Or.inl ⟨by rfl, ?_⟩) (by assumption) ?_
      rotate_left
      · (intro w hSw; (try dsimp only at hSw); go_simp; (try with_reducible rfl))
      try simp only [List.getElem_toArray, List.getElem_cons_succ, List.getElem_cons_zero, Act.put, List.setIfInBounds_toArray, List.set_cons_zero, List.set_cons_succ]
      refine wpAnyH_take (i := 5) (v := ?_) rfl (by kernel_rfl) (by kernel_rfl) (by kernel_rfl) (fun _ _ _ h => h) (Or.inl ⟨by rfl, ?_⟩) (by assumption) ?_
      rotate_left
      · (intro w hSw; (try dsimp only at hSw); go_simp; (try with_reducible rfl))
      try simp only [List.getElem_toArray, List.getElem_cons_succ, List.getElem_cons_zero, Act.put, List.setIfInBounds_toArray, List.set_cons_zero, List.set_cons_succ]
      refine wpAnyH_take (i := 6) (v := ?_) rfl (by kernel_rfl) (by kernel_rfl) (by kernel_rfl) (fun _ _ _ h => h) (Or.inl ⟨by rfl, ?_⟩) (by assumption) ?_
      rotate_left
      · (intro w hSw; (try dsimp only at hSw); go_simp; (try with_reducible rfl))
      try simp only [List.getElem_toArray, List.getElem_cons_succ, List.getElem_cons_zero, Act.put, List.setIfInBounds_toArray, List.set_cons_zero, List.set_cons_succ]
      refine wpAnyH_take (i := 7) (v := ?_) rfl (by kernel_rfl) (by kernel_rfl) (by kernel_rfl) (fun _ _ _ h => h) (Or.inl ⟨by rfl, ?_⟩) (by assumption) ?_
      rotate_left
      · (intro w hSw; (try dsimp only at hSw); go_simp; (try with_reducible rfl))
      try simp only [List.getElem_toArray, List.getElem_cons_succ, List.getElem_cons_zero, Act.put, List.setIfInBounds_toArray, List.set_cons_zero, List.set_cons_succ]
      refine wpAnyH_ready (rs := [8]) (by kernel_rfl) (by simp) (AllReadyH.cons rfl (fun K hK => ?_) AllReadyH.nil)
      go_simp
      refine (HCALL.out _ HD.out).mono ?_
      rintro e w2 ⟨rfl, b2⟩
      have HD2 := Lib.hid (below_two HD.out b2); clear b2
      go_wp2_with fail
      refine hK.out _ _ ?_ (fun hHeld => ?_)
      · exact ⟨HCX.out _ HD2.out, HCY.out _ HD2.out⟩
      clear hK K
      try simp only [List.getElem_toArray, List.getElem_cons_succ, List.getElem_cons_zero, Act.put, List.setIfInBounds_toArray, List.set_cons_zero, List.set_cons_succ]
      refine wpAnyH_take (i := 9) (v := ?_) rfl (by kernel_rfl) (by kernel_rfl) (by kernel_rfl) (fun _ _ _ h => h) (Or.inl ⟨by rfl, ?_⟩) (by assumption) ?_
      rotate_left
      · (intro w hSw; (try dsimp only at hSw); go_simp; (try with_reducible rfl))
      try simp only [List.getElem_toArray, List.getElem_cons_succ, List.getElem_cons_zero, Act.put, List.setIfInBounds_toArray, List.set_cons_zero, List.set_cons_succ]
      refine wpAnyH_done (by kernel_rfl) ?_ _
      have HBE := Lib.hid (below_two HB.out HD2.out)
      go_wp2_with fail
      go_roundw
      case rel => exact ⟨k + 1, by omega, by go_num, HBE.out⟩
      case measure => simp [intOf]; omega
    · have hkn : k = n := by omega
      subst hkn
      have HB := Lib.hid hb; clear hb
      go_wp2_with fail
      go_ret
      exact ⟨rfl, HB.out⟩
/-! ### marked -/
theorem tis_split {E EI : Nat} {v : Value} (a : List Rw) (c : Rw) (b : List Rw) : tis E EI v (a ++ (c :: b)) = (trow E v (a ++ (c :: b)) :: tls EI a) ++ (ints EI c.v c.xs :: tls EI b) := by
  simp [tis, tls]
set_option maxHeartbeats 2000000 in
set_option maxRecDepth 100000 in
/-- laws.markInt64SS of a table among slices of the call's own. -/
theorem markRows_hold (ao : Option Addr) (cap : Nat) (rs : List Rw) (q : Int) (w0 w : World) (L1 L2 : List It) (H : Hold w0 w (L1 ++ (tis 45 2 (.slice ao rs.length cap) rs ++ L2))) (hs : smallT (rwx rs)) (hq0 : 1 ≤ q) (hq1 : q ≤ 16777216) :
    Calls Try.prog 42 #[.slice ao rs.length cap, .int .i64 q] w fun e w' => e = .returned (.int .i64 (q + totR rs)) ∧ Hold w0 w' (L1 ++ (tis 45 2 (.slice ao rs.length cap) (markRs q rs) ++ L2)) := by
  have htot := hs.2
  rw [← totR_rwx] at htot
  have hn := hs.1
  rw [rwx_len] at hn
  have H0 := Lib.hid (show Hold w0 w (L1 ++ (tis 45 2 (.slice ao rs.length cap) (markRTo q rs 0) ++ L2)) from by rw [markRTo_zero]; exact H)
  have HLE := Lib.hid (fun k => totR_le (rs := rs) k)
  clear H hs
  obtain ⟨n, hnl⟩ : ∃ n, n = rs.length := ⟨_, rfl⟩
  rw [← hnl] at hn H0 ⊢
  have HNL := Lib.hid hnl; clear hnl
  obtain ⟨tt, htt⟩ : ∃ tt, tt = totR rs := ⟨_, rfl⟩
  rw [← htt] at htot HLE ⊢
  have HTT := Lib.hid htt; clear htt
  go_enter Try.func42, Try.ntmps42
  go_wp2_with fail
  go_loopw [1, 5] (fun v i wr => ∃ (k m : Nat), k ≤ n ∧ i = .int .i64 (k : Int) ∧ v = .int .i64 (q + (m : Int)) ∧ m ≤ tt ∧ Hid (m = totR (rs.take k)) ∧ Hid (Hold w0 wr (L1 ++ (tis 45 2 (.slice ao n cap) (markRTo q rs k) ++ L2)))) (fun _ i _ => n - (intOf i).toNat)
  case atStart => exact ⟨0, 0, Nat.zero_le _, rfl, by simp, Nat.zero_le _, show 0 = totR (rs.take 0) from by simp [totR], H0.out⟩
  case round =>
    clear H0
    obtain ⟨k, m, hk, rfl, rfl, hm, HM, H⟩ := hrel
    by_cases hlt : k < n
    · have hkr : k < rs.length := by rw [← HNL.out]; exact hlt
      have HRD := Lib.hid H.out.rdT_
      rw [markRTo_len, ← HNL.out] at HRD
      obtain ⟨g, off, e1, -, hc, -⟩ := HRD.out.at hlt
      subst e1
      have hrw : rwOf (markRTo q rs k) k = rwOf rs k := by
        rw [markRTo_split q hkr]
        have hl : (markRs q (rs.take k)).length = k := by rw [markRs_len, List.length_take]; omega
        unfold rwOf List.getD
        rw [List.getElem?_append_right (by omega), hl, Nat.sub_self]
        rfl
      rw [hrw] at hc
      have H1 : Hold w0 wr ((L1 ++ (trow 45 (.slice (some ⟨g, off, none⟩) n cap) (markRs q (rs.take k) ++ (rwOf rs k :: rs.drop (k + 1))) :: tls 2 (markRs q (rs.take k)))) ++ (ints 2 (rwOf rs k).v (rwOf rs k).xs :: (tls 2 (rs.drop (k + 1)) ++ L2))) := by
        have h := H.out
        rw [markRTo_split q hkr, tis_split] at h
        simpa only [List.append_assoc, List.cons_append] using h
      have HTK := Lib.hid (totR_take hkr)
      have HNX := Lib.hid (markRTo_next q hkr)
      have HSP := Lib.hid (markRTo_split q hkr)
      rw [← HM.out] at HTK HNX
      have hle := HLE.out (k + 1)
      rw [HTK.out] at hle
      have hown := H1.own (ints 2 (rwOf rs k).v (rwOf rs k).xs) (by simp)
      generalize hcc : rwOf rs k = c at hc H1 hown HTK HNX hle HSP
      have HOWN := Lib.hid (show Own 2 wr w0.heap.size (.slice c.ao c.xs.length c.cap) c.xs from hown)
      have H1' := Lib.hid H1
      have HCC := Lib.hid hcc
      clear H1 hown hrw H hcc
      have hcl : c.xs.length ≤ 1048576 := by omega
      go_wp2_with fail
      refine (mark_own c.ao c.xs.length c.cap w0.heap.size c.xs (q + (m : Int)) _ rfl HOWN.out (by omega) (by omega) (by omega)).mono ?_
      rintro e w2 ⟨rfl, o2, g2⟩
      have hmk := Hold.mark (p := ints 2 c.v c.xs) (q := ints 2 c.v (marks (q + (m : Int)) c.xs.length)) _ H1'.out rfl (by
        show w2.ownsRow w0.heap.size 2 1 c.v (marks (q + (m : Int)) c.xs.length).length _
        exact o2) g2
      have HF := Lib.hid (show Hold w0 w2 (L1 ++ (tis 45 2 (.slice (some ⟨g, off, none⟩) n cap) (markRTo q rs (k + 1)) ++ L2)) from by
        rw [HNX.out, tis_split]
        have e1 : trow 45 (.slice (some ⟨g, off, none⟩) n cap) (markRs q (rs.take k) ++ (⟨marks (q + (m : Int)) c.xs.length, c.ao, c.cap⟩ :: rs.drop (k + 1))) = trow 45 (.slice (some ⟨g, off, none⟩) n cap) (markRs q (rs.take k) ++ (c :: rs.drop (k + 1))) := by
          unfold trow
          congr 1
          · simp
          · rw [List.map_append, List.map_append, List.map_cons, List.map_cons]
            congr 2
            unfold Rw.v
            rw [marks_len]
        have e2 : (⟨marks (q + (m : Int)) c.xs.length, c.ao, c.cap⟩ : Rw).v = c.v := by unfold Rw.v; rw [marks_len]
        rw [e1, e2]
        simpa only [List.append_assoc, List.cons_append] using hmk)
      have HMM := Lib.hid (show m + c.xs.length = totR (rs.take (k + 1)) from HTK.out.symm)
      clear hmk o2 g2 hc
      generalize c.xs.length = cl at hle HMM hcl
      go_wp2_with fail
      go_roundw
      case rel => exact ⟨k + 1, m + cl, by omega, by go_num, by congr 1; omega, by omega, HMM.out, HF.out⟩
      case measure => simp [intOf]; omega
    · have hkn : k = n := by omega
      have HF := Lib.hid H.out
      rw [show markRTo q rs k = markRs q rs from by rw [hkn, HNL.out, markRTo_all]] at HF
      have HMM := Lib.hid (show m = tt from by rw [HM.out, HTT.out, hkn, HNL.out, List.take_length])
      clear hkn
      go_wp2_with fail
      go_ret
      exact ⟨by rw [HMM.out]; rfl, HF.out⟩
set_option maxHeartbeats 2000000 in
set_option maxRecDepth 100000 in
/-- laws.heldInt64SS of marks. -/
theorem heldRows_yes (ao : Option Addr) (cap : Nat) (rs : List Rw) (q : Int) (w : World) (hr : RdT w ao rs.length (markRs q rs)) (hs : smallT (rwx rs)) (hq0 : 1 ≤ q) (hq1 : q ≤ 16777216) :
    Calls Try.prog 43 #[.slice ao rs.length cap, .int .i64 q] w fun e w' => e = .returned (.int .i64 (q + totR rs)) ∧ w = w' := by
  have htot := hs.2
  rw [← totR_rwx] at htot
  have hn := hs.1
  rw [rwx_len] at hn
  have HLE := Lib.hid (fun k => totR_le (rs := rs) k)
  have HR := Lib.hid hr
  clear hs hr
  obtain ⟨n, hnl⟩ : ∃ n, n = rs.length := ⟨_, rfl⟩
  rw [← hnl] at hn HR ⊢
  have HNL := Lib.hid hnl; clear hnl
  obtain ⟨tt, htt⟩ : ∃ tt, tt = totR rs := ⟨_, rfl⟩
  rw [← htt] at htot HLE ⊢
  have HTT := Lib.hid htt; clear htt
  go_enter Try.func43, Try.ntmps43
  go_wp2_with fail
  go_loopw [1, 5] (fun v i wr => ∃ (k m : Nat), k ≤ n ∧ i = .int .i64 (k : Int) ∧ v = .int .i64 (q + (m : Int)) ∧ m ≤ tt ∧ Hid (m = totR (rs.take k)) ∧ w = wr) (fun _ i _ => n - (intOf i).toNat)
  case atStart => exact ⟨0, 0, Nat.zero_le _, rfl, by simp, Nat.zero_le _, show 0 = totR (rs.take 0) from by simp [totR], rfl⟩
  case round =>
    obtain ⟨k, m, hk, rfl, rfl, hm, HM, rfl⟩ := hrel
    by_cases hlt : k < n
    · have hkr : k < rs.length := by rw [← HNL.out]; exact hlt
      obtain ⟨g, off, rfl, -, hc, hrd⟩ := HR.out.at hlt
      rw [markRs_at q hkr] at hc hrd
      rw [← HM.out] at hc hrd
      have HTK := Lib.hid (totR_take hkr)
      rw [← HM.out] at HTK
      have hle := HLE.out (k + 1)
      rw [HTK.out] at hle
      have hrr := hrd.rd
      generalize rwOf rs k = c at hc HTK hle hrr
      dsimp only at hc hrr
      rw [marks_len] at hc hrr
      have HRR := Lib.hid hrr
      clear hrd hrr
      have HMM := Lib.hid (show m + c.xs.length = totR (rs.take (k + 1)) from HTK.out.symm)
      clear HTK
      obtain ⟨xl, ao2, cp⟩ := c
      dsimp only at hc HRR HMM hle
      generalize xl.length = cl at hc HRR HMM hle
      have hcl : cl ≤ 1048576 := by omega
      go_wp2_with fail
      refine (held_yes ao2 cl cp (q + (m : Int)) _ HRR.out (by omega) (by omega) (by omega)).mono ?_
      rintro e w2 ⟨rfl, rfl⟩
      clear hc
      go_wp2_with fail
      go_roundw
      case rel => exact ⟨k + 1, m + cl, by omega, by go_num, by congr 1; omega, by omega, HMM.out, trivial⟩
      case measure => simp [intOf]; omega
    · have hkn : k = n := by omega
      have HMM := Lib.hid (show m = tt from by rw [HM.out, HTT.out, hkn, HNL.out, List.take_length])
      clear hkn
      go_wp2_with fail
      go_ret
      exact ⟨by rw [HMM.out]; rfl, rfl⟩
end Go.Proofs.Ytbbodgeoenjdkaa
