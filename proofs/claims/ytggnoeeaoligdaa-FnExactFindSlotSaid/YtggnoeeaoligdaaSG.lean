/-
  Chapter 12: FindSlot, the codes of InsertSlot, SlotsOfNode.
-/
import Derived.Test.YtggnoeeaoligdaaSF
import Derived.Test.YtggnoeeaoligdaaEigA
import Derived.Test.YtggnoeeaoligdaaEigB
namespace Go.Proofs.Ytggnoeeaoligdaa
open Go.RowKit Go.Maps

set_option maxRecDepth 100000 in
set_option maxHeartbeats 2000000 in
theorem findSlotI_any (ao : Option Addr) (n cap : Nat) (t : List Sl) (m r s : Int) (w : World) (hr : RdE w ao n t) (hn : n ≤ 1048576) (hwf : wfk m r s) :
    Calls Try.prog 34 #[.slice ao n cap, .int .i64 m, .int .i64 r, .int .i64 s] w fun e w' => e = .returned (.tuple #[dsVal (findSlot t m r s).1, .int .i64 (findSlot t m r s).2]) ∧ Below w.heap.size w w' := by
  have b0 := (Below.refl w.heap.size w).alloc (Nat.le_refl _) (.cells #[.int .i64 0, .int .i64 0, .int .i64 0, .int .i64 0, .bool false] 36)
  have HIS := Lib.hid (isSlsI_any ao n cap t _ (hr.below b0) hn)
  have HV := Lib.hid (DescAt.new (T := 36) (n := 0) (a := 0) (z := 0) (u := 0) (c := false) w)
  have HB := Lib.hid b0
  have HR := Lib.hid (hr.below b0)
  clear hr b0
  rcases hi : isSls t with _ | _
  · have HF := Lib.hid (findSlot_no (m := m) (r := r) (s := s) hi)
    go_enter Try.func34, Try.ntmps34
    go_wp2_with fail
    refine HIS.out.mono ?_
    rintro e w1 ⟨rfl, b1⟩
    rw [hi]
    have V1 := HV.out.below b1 HV.out.lt
    have B1 := Lib.hid (below_two HB.out b1)
    have c0 := V1.c0; have c1 := V1.c1; have c2 := V1.c2; have c3 := V1.c3; have c4 := V1.c4
    have f0 := V1.f 0; have f1 := V1.f 1; have f2 := V1.f 2; have f3 := V1.f 3; have f4 := V1.f 4
    have HV1 := Lib.hid V1
    clear V1 b1 HIS
    go_wp2_with fail
    clear c0 c1 c2 c3 c4 f0 f1 f2 f3 f4
    rw [HF.out]
    change bodyPost _ _ _ _ _ (setDesc w1 w.heap.size 0 0 0 0 false)
    have VF := HV1.out.five 0 0 0 0 false
    have BF := B1.out.trans (below_desc (B := w.heap.size) (w := w1) (Nat.le_refl _) 0 0 0 0 false)
    generalize setDesc w1 w.heap.size 0 0 0 0 false = w5 at VF BF ⊢
    have e0 := VF.c0; have e1 := VF.c1; have e2 := VF.c2; have e3 := VF.c3; have e4 := VF.c4
    exact bodyPost_ret (v := .tuple #[dsVal Ds.zero, .int .i64 1]) (by simp [dsVal, Ds.zero, results, Try.results34, go_sem, e0, e1, e2, e3, e4]) rfl ⟨rfl, BF⟩
  have HSE := Lib.hid (fun W (hW : Below (w.alloc (.cells #[.int .i64 0, .int .i64 0, .int .i64 0, .int .i64 0, .bool false] 36)).heap.size (w.alloc (.cells #[.int .i64 0, .int .i64 0, .int .i64 0, .int .i64 0, .bool false] 36)) W) => sentIn_any ao n cap t W (HR.out.below hW) hn (wfE_all hi))
  rcases hs : sent t m r s with _ | d
  · have HF := Lib.hid (findSlot_none hi hs)
    go_enter Try.func34, Try.ntmps34
    go_wp2_with fail
    refine HIS.out.mono ?_
    rintro e w1 ⟨rfl, b1⟩
    rw [hi]
    have HC := Lib.hid (HSE.out _ b1)
    have HV1 := Lib.hid (HV.out.below b1 HV.out.lt)
    have HB1 := Lib.hid (below_two HB.out b1)
    clear b1 HIS HSE HR HV HB
    go_wp2_with fail
    refine HC.out.mono ?_
    rintro e w2 ⟨b, rfl, hb, hm, b2⟩
    have HM := Lib.hid hm
    have HV2 := Lib.hid (HV1.out.below b2 HV1.out.lt)
    have HB2 := Lib.hid (below_two HB1.out b2)
    have HVZ := Lib.hid (HV2.out.below ((Below.refl w2.heap.size w2).alloc (Nat.le_refl _) (.cells #[.int .i64 0, .int .i64 0, .int .i64 0, .int .i64 0, .bool false] 36)) HV2.out.lt)
    have HBZ := Lib.hid (HB2.out.alloc HB2.out.size (.cells #[.int .i64 0, .int .i64 0, .int .i64 0, .int .i64 0, .bool false] 36))
    have HVD := Lib.hid (fun n a z u c => HV2.out.below ((Below.refl w2.heap.size w2).alloc (Nat.le_refl _) (.cells #[.int .i64 n, .int .i64 a, .int .i64 z, .int .i64 u, .bool c] 36)) HV2.out.lt)
    have HBD := Lib.hid (fun n a z u c => HB2.out.alloc HB2.out.size (.cells #[.int .i64 n, .int .i64 a, .int .i64 z, .int .i64 u, .bool c] 36))
    clear hb hm b2 HC
    have c0 := HVZ.out.c0; have c1 := HVZ.out.c1; have c2 := HVZ.out.c2; have c3 := HVZ.out.c3; have c4 := HVZ.out.c4
    have f0 := HVZ.out.f 0; have f1 := HVZ.out.f 1; have f2 := HVZ.out.f 2; have f3 := HVZ.out.f 3; have f4 := HVZ.out.f 4
    go_wp2_with (at_lookup; refine lookS _ rfl (.tmp 18) (.tmp 22) rfl b n (sent t) rfl HM.out m r s rfl hwf ?_; rw [hs]; simp only [Option.getD, Option.isSome]; unfold dsVal Ds.zero; try dsimp only)
    clear c0 c1 c2 c3 c4 f0 f1 f2 f3 f4
    rw [HF.out]
    change bodyPost _ _ _ _ _ (setDesc (w2.alloc (.cells #[.int .i64 0, .int .i64 0, .int .i64 0, .int .i64 0, .bool false] 36)) w.heap.size 0 0 0 0 false)
    have VF := HVZ.out.five 0 0 0 0 false
    have BF := HBZ.out.trans (below_desc (B := w.heap.size) (w := w2.alloc (.cells #[.int .i64 0, .int .i64 0, .int .i64 0, .int .i64 0, .bool false] 36)) (Nat.le_refl _) 0 0 0 0 false)
    generalize setDesc (w2.alloc (.cells #[.int .i64 0, .int .i64 0, .int .i64 0, .int .i64 0, .bool false] 36)) w.heap.size 0 0 0 0 false = w5 at VF BF ⊢
    have e0 := VF.c0; have e1 := VF.c1; have e2 := VF.c2; have e3 := VF.c3; have e4 := VF.c4
    exact bodyPost_ret (v := .tuple #[dsVal Ds.zero, .int .i64 4]) (by simp [dsVal, Ds.zero, results, Try.results34, go_sem, e0, e1, e2, e3, e4]) rfl ⟨rfl, BF⟩
  · have HF := Lib.hid (findSlot_some hi hs)
    go_enter Try.func34, Try.ntmps34
    go_wp2_with fail
    refine HIS.out.mono ?_
    rintro e w1 ⟨rfl, b1⟩
    rw [hi]
    have HC := Lib.hid (HSE.out _ b1)
    have HV1 := Lib.hid (HV.out.below b1 HV.out.lt)
    have HB1 := Lib.hid (below_two HB.out b1)
    clear b1 HIS HSE HR HV HB
    go_wp2_with fail
    refine HC.out.mono ?_
    rintro e w2 ⟨b, rfl, hb, hm, b2⟩
    have HM := Lib.hid hm
    have HV2 := Lib.hid (HV1.out.below b2 HV1.out.lt)
    have HB2 := Lib.hid (below_two HB1.out b2)
    have HVZ := Lib.hid (HV2.out.below ((Below.refl w2.heap.size w2).alloc (Nat.le_refl _) (.cells #[.int .i64 0, .int .i64 0, .int .i64 0, .int .i64 0, .bool false] 36)) HV2.out.lt)
    have HBZ := Lib.hid (HB2.out.alloc HB2.out.size (.cells #[.int .i64 0, .int .i64 0, .int .i64 0, .int .i64 0, .bool false] 36))
    have HVD := Lib.hid (fun n a z u c => HV2.out.below ((Below.refl w2.heap.size w2).alloc (Nat.le_refl _) (.cells #[.int .i64 n, .int .i64 a, .int .i64 z, .int .i64 u, .bool c] 36)) HV2.out.lt)
    have HBD := Lib.hid (fun n a z u c => HB2.out.alloc HB2.out.size (.cells #[.int .i64 n, .int .i64 a, .int .i64 z, .int .i64 u, .bool c] 36))
    clear hb hm b2 HC
    have hvr := HVD.out d.node d.kind d.size d.dur d.chg
    have hvn := DescAt.new (T := 36) (n := d.node) (a := d.kind) (z := d.size) (u := d.dur) (c := d.chg) w2
    have hbr := HBD.out d.node d.kind d.size d.dur d.chg
    have HVR := Lib.hid hvr; have HBR := Lib.hid hbr
    have c0 := hvr.c0; have c1 := hvr.c1; have c2 := hvr.c2; have c3 := hvr.c3; have c4 := hvr.c4
    have f0 := hvr.f 0; have f1 := hvr.f 1; have f2 := hvr.f 2; have f3 := hvr.f 3; have f4 := hvr.f 4
    have q0 := hvn.c0; have q1 := hvn.c1; have q2 := hvn.c2; have q3 := hvn.c3; have q4 := hvn.c4
    clear hvr hvn hbr
    go_wp2_with (at_lookup; refine lookS _ rfl (.tmp 18) (.tmp 22) rfl b n (sent t) rfl HM.out m r s rfl hwf ?_; rw [hs]; simp only [Option.getD, Option.isSome]; unfold dsVal; try dsimp only)
    clear c0 c1 c2 c3 c4 f0 f1 f2 f3 f4 q0 q1 q2 q3 q4
    rw [HF.out]
    change bodyPost _ _ _ _ _ (setDesc (w2.alloc (.cells #[.int .i64 d.node, .int .i64 d.kind, .int .i64 d.size, .int .i64 d.dur, .bool d.chg] 36)) w.heap.size d.node d.kind d.size d.dur d.chg)
    have VF := HVR.out.five d.node d.kind d.size d.dur d.chg
    have BF := HBR.out.trans (below_desc (B := w.heap.size) (w := (w2.alloc (.cells #[.int .i64 d.node, .int .i64 d.kind, .int .i64 d.size, .int .i64 d.dur, .bool d.chg] 36))) (Nat.le_refl _) d.node d.kind d.size d.dur d.chg)
    generalize setDesc (w2.alloc (.cells #[.int .i64 d.node, .int .i64 d.kind, .int .i64 d.size, .int .i64 d.dur, .bool d.chg] 36)) w.heap.size d.node d.kind d.size d.dur d.chg = w5 at VF BF ⊢
    have e0 := VF.c0; have e1 := VF.c1; have e2 := VF.c2; have e3 := VF.c3; have e4 := VF.c4
    exact bodyPost_ret (v := .tuple #[dsVal d, .int .i64 0]) (by simp [dsVal, results, Try.results34, go_sem, e0, e1, e2, e3, e4]) rfl ⟨rfl, BF⟩
set_option maxRecDepth 100000 in
set_option maxHeartbeats 4000000 in
set_option linter.unusedSimpArgs false in
theorem codeIns_any (ao : Option Addr) (n cap : Nat) (t : List Sl) (x : Sl) (w : World) (hr : RdE w ao n t) (hn : n ≤ 1048576) :
    Calls Try.prog 89 #[.slice ao n cap, slVal x] w fun e w' => e = .returned (.int .i64 (codeIns t x)) ∧ Below w.heap.size w w' := by
  have b0 := (Below.refl w.heap.size w).alloc (Nat.le_refl _) (.cells #[.int .i64 x.mode, .int .i64 x.round, .int .i64 x.slot, .int .i64 x.desc.node, .int .i64 x.desc.kind, .int .i64 x.desc.size, .int .i64 x.desc.dur, .bool x.desc.chg] 38)
  have HIS := Lib.hid (isSlsI_any ao n cap t _ (hr.below b0) hn)
  have HX := Lib.hid (SlBk.new (T := 38) (x := x) w)
  have HL := Lib.hid hr.len
  have HB := Lib.hid b0
  have HR := Lib.hid (hr.below b0)
  have HI := Lib.hid (fun W => isSlI_any x W)
  unfold slVal at HI ⊢
  clear hr b0
  rcases hi : isSls t with _ | _
  · have HF := Lib.hid (show codeIns t x = 1 from by unfold codeIns; rw [if_pos hi])
    go_enter Try.func89, Try.ntmps89
    go_wp2_with fail
    refine HIS.out.mono ?_
    rintro e w1 ⟨rfl, b1⟩
    rw [hi]
    go_wp2_with fail
    go_ret
    rw [HF.out]
    exact ⟨rfl, below_two HB.out b1⟩
  rcases hx : isSl x with _ | _
  · have HF := Lib.hid (show codeIns t x = 2 from by unfold codeIns; rw [if_neg (by rw [hi]; simp), if_pos hx])
    go_enter Try.func89, Try.ntmps89
    go_wp2_with fail
    refine HIS.out.mono ?_
    rintro e w1 ⟨rfl, b1⟩
    rw [hi]
    obtain ⟨q0, q1, q2, q3, q4, q5, q6, q7⟩ := (HX.out.below b1 HX.out.lt).all8
    go_wp2_with fail
    refine (HI.out _).mono ?_
    rintro e w2 ⟨rfl, b2⟩
    rw [hx]
    go_wp2_with fail
    go_ret
    rw [HF.out]
    exact ⟨rfl, below_two (below_two HB.out b1) b2⟩
  have HSE := Lib.hid (fun W (hW : Below (w.alloc (.cells #[.int .i64 x.mode, .int .i64 x.round, .int .i64 x.slot, .int .i64 x.desc.node, .int .i64 x.desc.kind, .int .i64 x.desc.size, .int .i64 x.desc.dur, .bool x.desc.chg] 38)).heap.size (w.alloc (.cells #[.int .i64 x.mode, .int .i64 x.round, .int .i64 x.slot, .int .i64 x.desc.node, .int .i64 x.desc.kind, .int .i64 x.desc.size, .int .i64 x.desc.dur, .bool x.desc.chg] 38)) W) => sentIn_any ao n cap t W (HR.out.below hW) hn (wfE_all hi))
  have HKO := Lib.hid (fun W => keyOfS_any x W)
  unfold slVal at HKO
  have HW := Lib.hid (wfE_of hx)
  obtain ⟨c, hc⟩ : ∃ c, c = (sent t x.mode x.round x.slot).isSome := ⟨_, rfl⟩
  have HCI := Lib.hid (show codeIns t x = if c = true then 5 else if t.length = 120 then 3 else 0 from by unfold codeIns; rw [if_neg (by rw [hi]; simp), if_neg (by rw [hx]; simp), hc])
  have HCC := Lib.hid hc
  clear hc
  obtain ⟨dz, hdz⟩ : ∃ d, d = (sent t x.mode x.round x.slot).getD Ds.zero := ⟨_, rfl⟩
  have HDZ := Lib.hid hdz
  clear hdz
  go_enter Try.func89, Try.ntmps89
  go_wp2_with fail
  refine HIS.out.mono ?_
  rintro e w1 ⟨rfl, b1⟩
  rw [hi]
  have HX1 := Lib.hid (HX.out.below b1 HX.out.lt)
  have HB1 := Lib.hid b1
  clear b1 HX HR HIS
  obtain ⟨q0, q1, q2, q3, q4, q5, q6, q7⟩ := HX1.out.all8
  go_wp2_with fail
  refine (HI.out _).mono ?_
  rintro e w2 ⟨rfl, b2⟩
  rw [hx]
  have HX2 := Lib.hid (HX1.out.below b2 HX1.out.lt)
  have HB2 := Lib.hid (below_two HB1.out b2)
  clear b2 HX1 HB1 q0 q1 q2 q3 q4 q5 q6 q7 HI
  go_upto_region 5 with fail
  go_cut [6] (fun s6 wx => ∃ wy, wy = wx ∧ s6 = .bool c ∧ Hid (Below w.heap.size w wy))
  case first =>
    have HXW := Lib.hid (fun W (hW : Below w2.heap.size w2 W) => (HX2.out.below hW HX2.out.lt).all8)
    have HD0 := Lib.hid (show Below w2.heap.size w2 w2.drew from Below.drew (Below.refl _ _))
    refine wp_region_held_drew (S := fun w' => w'.cell? ⟨w.heap.size, 0, none⟩ = some (Value.int .i64 x.mode) ∧ w'.cell? ⟨w.heap.size, 1, none⟩ = some (Value.int .i64 x.round) ∧ w'.cell? ⟨w.heap.size, 2, none⟩ = some (Value.int .i64 x.slot) ∧ w'.cell? ⟨w.heap.size, 3, none⟩ = some (Value.int .i64 x.desc.node) ∧ w'.cell? ⟨w.heap.size, 4, none⟩ = some (Value.int .i64 x.desc.kind) ∧ w'.cell? ⟨w.heap.size, 5, none⟩ = some (Value.int .i64 x.desc.size) ∧ w'.cell? ⟨w.heap.size, 6, none⟩ = some (Value.int .i64 x.desc.dur) ∧ w'.cell? ⟨w.heap.size, 7, none⟩ = some (Value.bool x.desc.chg)) (by kernel_rfl) (HXW.out _ HD0.out) (fun hHeld => ?_)
    generalize w2.drew = w3 at HD0 hHeld ⊢
    refine wpAnyH_take (i := 0) (v := ?_) rfl (by kernel_rfl) (by kernel_rfl) (by kernel_rfl) (fun _ _ _ h => h) (Or.inl ⟨by rfl, ?_⟩) (by assumption) ?_
    rotate_left
    · (intro w hSw; (try dsimp only at hSw); go_simp; (try with_reducible rfl))
    try simp only [List.getElem_toArray, List.getElem_cons_succ, List.getElem_cons_zero, Act.put, List.setIfInBounds_toArray, List.set_cons_zero, List.set_cons_succ]
    refine wpAnyH_take (i := 2) (v := ?_) rfl (by kernel_rfl) (by kernel_rfl) (by kernel_rfl) (fun _ _ _ h => h) (Or.inl ⟨by rfl, ?_⟩) (by assumption) ?_
    rotate_left
    · (intro w hSw; (try dsimp only at hSw); go_simp; (try with_reducible rfl))
    try simp only [List.getElem_toArray, List.getElem_cons_succ, List.getElem_cons_zero, Act.put, List.setIfInBounds_toArray, List.set_cons_zero, List.set_cons_succ]
    refine wpAnyH_ready (rs := [1, 8]) (by kernel_rfl) (by simp) (AllReadyH.cons rfl (fun K hK => ?_) (AllReadyH.cons rfl (fun K hK => ?_) AllReadyH.nil))
    · skip
      go_simp
      refine (HSE.out _ (below_two HB2.out HD0.out)).mono ?_
      rintro e w11 ⟨bm, rfl, -, hm, b9⟩
      have HM11 := Lib.hid hm
      have HD11 := Lib.hid (below_two HD0.out b9)
      clear b9 hm
      go_wp2_with fail
      refine hK.out _ _ ?_ (fun hHeld => ?_)
      · exact HXW.out _ HD11.out
      clear hK K
      try simp only [List.getElem_toArray, List.getElem_cons_succ, List.getElem_cons_zero, Act.put, List.setIfInBounds_toArray, List.set_cons_zero, List.set_cons_succ]
      refine wpAnyH_ready (rs := [3, 8]) (by kernel_rfl) (by simp) (AllReadyH.cons rfl (fun K hK => ?_) (AllReadyH.cons rfl (fun K hK => ?_) AllReadyH.nil))
      · skip
        go_simp
        refine (HKO.out _).mono ?_
        rintro e w12 ⟨rfl, b9⟩
        have HM12 := Lib.hid (HM11.out.below b9)
        have HD12 := Lib.hid (below_two HD11.out b9)
        clear b9
        go_wp2_with fail
        refine hK.out _ _ ?_ (fun hHeld => ?_)
        · exact HXW.out _ HD12.out
        clear hK K
        try simp only [List.getElem_toArray, List.getElem_cons_succ, List.getElem_cons_zero, Act.put, List.setIfInBounds_toArray, List.set_cons_zero, List.set_cons_succ]
        refine wpAnyH_ready (rs := [4, 8]) (by kernel_rfl) (by simp) (AllReadyH.cons rfl (fun K hK => ?_) (AllReadyH.cons rfl (fun K hK => ?_) AllReadyH.nil))
        · skip
          refine lookS_op _ (.tmp 15) (.tmp 17) rfl bm n (sent t) rfl HM12.out x.mode x.round x.slot rfl HW.out ?_
          rw [← HCC.out, ← HDZ.out]
          unfold dsVal
          try dsimp only
          refine hK.out _ _ ?_ (fun hHeld => ?_)
          · exact HXW.out _ HD12.out
          clear hK K
          try simp only [List.getElem_toArray, List.getElem_cons_succ, List.getElem_cons_zero, Act.put, List.setIfInBounds_toArray, List.set_cons_zero, List.set_cons_succ]
          refine wpAnyH_take (i := 5) (v := ?_) rfl (by kernel_rfl) (by kernel_rfl) (by kernel_rfl) (fun _ _ _ h => h) (Or.inl ⟨by rfl, ?_⟩) (by assumption) ?_
          rotate_left
          · (intro w hSw; (try dsimp only at hSw); go_simp; (try with_reducible rfl))
          try simp only [List.getElem_toArray, List.getElem_cons_succ, List.getElem_cons_zero, Act.put, List.setIfInBounds_toArray, List.set_cons_zero, List.set_cons_succ]
          refine wpAnyH_take (i := 6) (v := ?_) rfl (by kernel_rfl) (by kernel_rfl) (by kernel_rfl) (fun _ _ _ h => h) (Or.inl ⟨by rfl, ?_⟩) (by assumption) ?_
          rotate_left
          · (intro w hSw; (try dsimp only at hSw); go_simp; (try with_reducible rfl))
          try simp only [List.getElem_toArray, List.getElem_cons_succ, List.getElem_cons_zero, Act.put, List.setIfInBounds_toArray, List.set_cons_zero, List.set_cons_succ]
          refine wpAnyH_take (i := 7) (v := ?_) rfl (by kernel_rfl) (by kernel_rfl) (by kernel_rfl) (fun _ _ _ h => h) (Or.inl ⟨by rfl, ?_⟩) (by assumption) ?_
          rotate_left
          · (intro w hSw; (try dsimp only at hSw); go_simp; (try with_reducible rfl))
          try simp only [List.getElem_toArray, List.getElem_cons_succ, List.getElem_cons_zero, Act.put, List.setIfInBounds_toArray, List.set_cons_zero, List.set_cons_succ]
          refine wpAnyH_ready (rs := [8]) (by kernel_rfl) (by simp) (AllReadyH.cons rfl (fun K hK => ?_) AllReadyH.nil)
          go_simp
          have b9 := (Below.refl w12.heap.size w12).alloc (Nat.le_refl _) (.cells #[.int .i64 0, .int .i64 0, .int .i64 0, .int .i64 0, .bool false] 36)
          have HV14 := Lib.hid (DescAt.new (T := 36) (n := 0) (a := 0) (z := 0) (u := 0) (c := false) w12)
          have HV14B : w2.heap.size ≤ w12.heap.size := HD12.out.size
          have HD14 := Lib.hid (below_two HD12.out b9)
          have HM14 := Lib.hid (HM12.out.below b9)
          clear b9
          refine hK.out _ _ ?_ (fun hHeld => ?_)
          · exact HXW.out _ HD14.out
          clear hK K
          try simp only [List.getElem_toArray, List.getElem_cons_succ, List.getElem_cons_zero, Act.put, List.setIfInBounds_toArray, List.set_cons_zero, List.set_cons_succ]
          generalize w12.alloc (.cells #[.int .i64 0, .int .i64 0, .int .i64 0, .int .i64 0, .bool false] 36) = w14 at HD14 HV14 HM14 hHeld ⊢
          have c0 := HV14.out.c0; have c1 := HV14.out.c1; have c2 := HV14.out.c2; have c3 := HV14.out.c3; have c4 := HV14.out.c4
          have f0 := HV14.out.f 0; have f1 := HV14.out.f 1; have f2 := HV14.out.f 2; have f3 := HV14.out.f 3; have f4 := HV14.out.f 4
          refine wpAnyH_ready (rs := [9]) (by kernel_rfl) (by simp) (AllReadyH.cons rfl (fun K hK => ?_) AllReadyH.nil)
          go_simp
          clear c0 c1 c2 c3 c4 f0 f1 f2 f3 f4
          change K _ (setDesc w14 w12.heap.size dz.node dz.kind dz.size dz.dur dz.chg)
          have HB15 := Lib.hid (HD14.out.trans (below_desc (B := w2.heap.size) (w := w14) (by have := HV14B; omega) dz.node dz.kind dz.size dz.dur dz.chg))
          generalize setDesc w14 w12.heap.size dz.node dz.kind dz.size dz.dur dz.chg = w15 at HB15 ⊢
          refine hK.out _ _ ?_ (fun hHeld => ?_)
          · exact HXW.out _ HB15.out
          clear hK K
          try simp only [List.getElem_toArray, List.getElem_cons_succ, List.getElem_cons_zero, Act.put, List.setIfInBounds_toArray, List.set_cons_zero, List.set_cons_succ]
          refine wpAnyH_take (i := 10) (v := ?_) rfl (by kernel_rfl) (by kernel_rfl) (by kernel_rfl) (fun _ _ _ h => h) (Or.inl ⟨by rfl, ?_⟩) (by assumption) ?_
          rotate_left
          · (intro w hSw; (try dsimp only at hSw); go_simp; (try with_reducible rfl))
          try simp only [List.getElem_toArray, List.getElem_cons_succ, List.getElem_cons_zero, Act.put, List.setIfInBounds_toArray, List.set_cons_zero, List.set_cons_succ]
          refine wpAnyH_done (by kernel_rfl) ?_ _
          have HBE := Lib.hid (below_two HB.out (below_two HB2.out HB15.out))
          go_wp2_with fail
          go_meet
          exact ⟨_, rfl, rfl, HBE⟩
        · skip
          go_simp
          have b9 := (Below.refl w12.heap.size w12).alloc (Nat.le_refl _) (.cells #[.int .i64 0, .int .i64 0, .int .i64 0, .int .i64 0, .bool false] 36)
          have HV16 := Lib.hid (DescAt.new (T := 36) (n := 0) (a := 0) (z := 0) (u := 0) (c := false) w12)
          have HV16B : w2.heap.size ≤ w12.heap.size := HD12.out.size
          have HD16 := Lib.hid (below_two HD12.out b9)
          have HM16 := Lib.hid (HM12.out.below b9)
          clear b9
          refine hK.out _ _ ?_ (fun hHeld => ?_)
          · exact HXW.out _ HD16.out
          clear hK K
          try simp only [List.getElem_toArray, List.getElem_cons_succ, List.getElem_cons_zero, Act.put, List.setIfInBounds_toArray, List.set_cons_zero, List.set_cons_succ]
          generalize w12.alloc (.cells #[.int .i64 0, .int .i64 0, .int .i64 0, .int .i64 0, .bool false] 36) = w16 at HD16 HV16 HM16 hHeld ⊢
          refine wpAnyH_ready (rs := [4]) (by kernel_rfl) (by simp) (AllReadyH.cons rfl (fun K hK => ?_) AllReadyH.nil)
          refine lookS_op _ (.tmp 15) (.tmp 17) rfl bm n (sent t) rfl HM16.out x.mode x.round x.slot rfl HW.out ?_
          rw [← HCC.out, ← HDZ.out]
          unfold dsVal
          try dsimp only
          refine hK.out _ _ ?_ (fun hHeld => ?_)
          · exact HXW.out _ HD16.out
          clear hK K
          try simp only [List.getElem_toArray, List.getElem_cons_succ, List.getElem_cons_zero, Act.put, List.setIfInBounds_toArray, List.set_cons_zero, List.set_cons_succ]
          refine wpAnyH_take (i := 5) (v := ?_) rfl (by kernel_rfl) (by kernel_rfl) (by kernel_rfl) (fun _ _ _ h => h) (Or.inl ⟨by rfl, ?_⟩) (by assumption) ?_
          rotate_left
          · (intro w hSw; (try dsimp only at hSw); go_simp; (try with_reducible rfl))
          try simp only [List.getElem_toArray, List.getElem_cons_succ, List.getElem_cons_zero, Act.put, List.setIfInBounds_toArray, List.set_cons_zero, List.set_cons_succ]
          refine wpAnyH_take (i := 6) (v := ?_) rfl (by kernel_rfl) (by kernel_rfl) (by kernel_rfl) (fun _ _ _ h => h) (Or.inl ⟨by rfl, ?_⟩) (by assumption) ?_
          rotate_left
          · (intro w hSw; (try dsimp only at hSw); go_simp; (try with_reducible rfl))
          try simp only [List.getElem_toArray, List.getElem_cons_succ, List.getElem_cons_zero, Act.put, List.setIfInBounds_toArray, List.set_cons_zero, List.set_cons_succ]
          refine wpAnyH_take (i := 7) (v := ?_) rfl (by kernel_rfl) (by kernel_rfl) (by kernel_rfl) (fun _ _ _ h => h) (Or.inl ⟨by rfl, ?_⟩) (by assumption) ?_
          rotate_left
          · (intro w hSw; (try dsimp only at hSw); go_simp; (try with_reducible rfl))
          try simp only [List.getElem_toArray, List.getElem_cons_succ, List.getElem_cons_zero, Act.put, List.setIfInBounds_toArray, List.set_cons_zero, List.set_cons_succ]
          have c0 := HV16.out.c0; have c1 := HV16.out.c1; have c2 := HV16.out.c2; have c3 := HV16.out.c3; have c4 := HV16.out.c4
          have f0 := HV16.out.f 0; have f1 := HV16.out.f 1; have f2 := HV16.out.f 2; have f3 := HV16.out.f 3; have f4 := HV16.out.f 4
          refine wpAnyH_ready (rs := [9]) (by kernel_rfl) (by simp) (AllReadyH.cons rfl (fun K hK => ?_) AllReadyH.nil)
          go_simp
          clear c0 c1 c2 c3 c4 f0 f1 f2 f3 f4
          change K _ (setDesc w16 w12.heap.size dz.node dz.kind dz.size dz.dur dz.chg)
          have HB18 := Lib.hid (HD16.out.trans (below_desc (B := w2.heap.size) (w := w16) (by have := HV16B; omega) dz.node dz.kind dz.size dz.dur dz.chg))
          generalize setDesc w16 w12.heap.size dz.node dz.kind dz.size dz.dur dz.chg = w18 at HB18 ⊢
          refine hK.out _ _ ?_ (fun hHeld => ?_)
          · exact HXW.out _ HB18.out
          clear hK K
          try simp only [List.getElem_toArray, List.getElem_cons_succ, List.getElem_cons_zero, Act.put, List.setIfInBounds_toArray, List.set_cons_zero, List.set_cons_succ]
          refine wpAnyH_take (i := 10) (v := ?_) rfl (by kernel_rfl) (by kernel_rfl) (by kernel_rfl) (fun _ _ _ h => h) (Or.inl ⟨by rfl, ?_⟩) (by assumption) ?_
          rotate_left
          · (intro w hSw; (try dsimp only at hSw); go_simp; (try with_reducible rfl))
          try simp only [List.getElem_toArray, List.getElem_cons_succ, List.getElem_cons_zero, Act.put, List.setIfInBounds_toArray, List.set_cons_zero, List.set_cons_succ]
          refine wpAnyH_done (by kernel_rfl) ?_ _
          have HBE := Lib.hid (below_two HB.out (below_two HB2.out HB18.out))
          go_wp2_with fail
          go_meet
          exact ⟨_, rfl, rfl, HBE⟩
      · skip
        go_simp
        have b9 := (Below.refl w11.heap.size w11).alloc (Nat.le_refl _) (.cells #[.int .i64 0, .int .i64 0, .int .i64 0, .int .i64 0, .bool false] 36)
        have HV19 := Lib.hid (DescAt.new (T := 36) (n := 0) (a := 0) (z := 0) (u := 0) (c := false) w11)
        have HV19B : w2.heap.size ≤ w11.heap.size := HD11.out.size
        have HD19 := Lib.hid (below_two HD11.out b9)
        have HM19 := Lib.hid (HM11.out.below b9)
        clear b9
        refine hK.out _ _ ?_ (fun hHeld => ?_)
        · exact HXW.out _ HD19.out
        clear hK K
        try simp only [List.getElem_toArray, List.getElem_cons_succ, List.getElem_cons_zero, Act.put, List.setIfInBounds_toArray, List.set_cons_zero, List.set_cons_succ]
        generalize w11.alloc (.cells #[.int .i64 0, .int .i64 0, .int .i64 0, .int .i64 0, .bool false] 36) = w19 at HD19 HV19 HM19 hHeld ⊢
        refine wpAnyH_ready (rs := [3]) (by kernel_rfl) (by simp) (AllReadyH.cons rfl (fun K hK => ?_) AllReadyH.nil)
        go_simp
        refine (HKO.out _).mono ?_
        rintro e w20 ⟨rfl, b9⟩
        have HM20 := Lib.hid (HM19.out.below b9)
        have HD20 := Lib.hid (below_two HD19.out b9)
        have HV20 := Lib.hid (HV19.out.below b9 HV19.out.lt)
        have HV20B := HV19B
        clear b9
        go_wp2_with fail
        refine hK.out _ _ ?_ (fun hHeld => ?_)
        · exact HXW.out _ HD20.out
        clear hK K
        try simp only [List.getElem_toArray, List.getElem_cons_succ, List.getElem_cons_zero, Act.put, List.setIfInBounds_toArray, List.set_cons_zero, List.set_cons_succ]
        refine wpAnyH_ready (rs := [4]) (by kernel_rfl) (by simp) (AllReadyH.cons rfl (fun K hK => ?_) AllReadyH.nil)
        refine lookS_op _ (.tmp 15) (.tmp 17) rfl bm n (sent t) rfl HM20.out x.mode x.round x.slot rfl HW.out ?_
        rw [← HCC.out, ← HDZ.out]
        unfold dsVal
        try dsimp only
        refine hK.out _ _ ?_ (fun hHeld => ?_)
        · exact HXW.out _ HD20.out
        clear hK K
        try simp only [List.getElem_toArray, List.getElem_cons_succ, List.getElem_cons_zero, Act.put, List.setIfInBounds_toArray, List.set_cons_zero, List.set_cons_succ]
        refine wpAnyH_take (i := 5) (v := ?_) rfl (by kernel_rfl) (by kernel_rfl) (by kernel_rfl) (fun _ _ _ h => h) (Or.inl ⟨by rfl, ?_⟩) (by assumption) ?_
        rotate_left
        · (intro w hSw; (try dsimp only at hSw); go_simp; (try with_reducible rfl))
        try simp only [List.getElem_toArray, List.getElem_cons_succ, List.getElem_cons_zero, Act.put, List.setIfInBounds_toArray, List.set_cons_zero, List.set_cons_succ]
        refine wpAnyH_take (i := 6) (v := ?_) rfl (by kernel_rfl) (by kernel_rfl) (by kernel_rfl) (fun _ _ _ h => h) (Or.inl ⟨by rfl, ?_⟩) (by assumption) ?_
        rotate_left
        · (intro w hSw; (try dsimp only at hSw); go_simp; (try with_reducible rfl))
        try simp only [List.getElem_toArray, List.getElem_cons_succ, List.getElem_cons_zero, Act.put, List.setIfInBounds_toArray, List.set_cons_zero, List.set_cons_succ]
        refine wpAnyH_take (i := 7) (v := ?_) rfl (by kernel_rfl) (by kernel_rfl) (by kernel_rfl) (fun _ _ _ h => h) (Or.inl ⟨by rfl, ?_⟩) (by assumption) ?_
        rotate_left
        · (intro w hSw; (try dsimp only at hSw); go_simp; (try with_reducible rfl))
        try simp only [List.getElem_toArray, List.getElem_cons_succ, List.getElem_cons_zero, Act.put, List.setIfInBounds_toArray, List.set_cons_zero, List.set_cons_succ]
        have c0 := HV20.out.c0; have c1 := HV20.out.c1; have c2 := HV20.out.c2; have c3 := HV20.out.c3; have c4 := HV20.out.c4
        have f0 := HV20.out.f 0; have f1 := HV20.out.f 1; have f2 := HV20.out.f 2; have f3 := HV20.out.f 3; have f4 := HV20.out.f 4
        refine wpAnyH_ready (rs := [9]) (by kernel_rfl) (by simp) (AllReadyH.cons rfl (fun K hK => ?_) AllReadyH.nil)
        go_simp
        clear c0 c1 c2 c3 c4 f0 f1 f2 f3 f4
        change K _ (setDesc w20 w11.heap.size dz.node dz.kind dz.size dz.dur dz.chg)
        have HB22 := Lib.hid (HD20.out.trans (below_desc (B := w2.heap.size) (w := w20) (by have := HV20B; omega) dz.node dz.kind dz.size dz.dur dz.chg))
        generalize setDesc w20 w11.heap.size dz.node dz.kind dz.size dz.dur dz.chg = w22 at HB22 ⊢
        refine hK.out _ _ ?_ (fun hHeld => ?_)
        · exact HXW.out _ HB22.out
        clear hK K
        try simp only [List.getElem_toArray, List.getElem_cons_succ, List.getElem_cons_zero, Act.put, List.setIfInBounds_toArray, List.set_cons_zero, List.set_cons_succ]
        refine wpAnyH_take (i := 10) (v := ?_) rfl (by kernel_rfl) (by kernel_rfl) (by kernel_rfl) (fun _ _ _ h => h) (Or.inl ⟨by rfl, ?_⟩) (by assumption) ?_
        rotate_left
        · (intro w hSw; (try dsimp only at hSw); go_simp; (try with_reducible rfl))
        try simp only [List.getElem_toArray, List.getElem_cons_succ, List.getElem_cons_zero, Act.put, List.setIfInBounds_toArray, List.set_cons_zero, List.set_cons_succ]
        refine wpAnyH_done (by kernel_rfl) ?_ _
        have HBE := Lib.hid (below_two HB.out (below_two HB2.out HB22.out))
        go_wp2_with fail
        go_meet
        exact ⟨_, rfl, rfl, HBE⟩
    · skip
      go_simp
      have b9 := (Below.refl w3.heap.size w3).alloc (Nat.le_refl _) (.cells #[.int .i64 0, .int .i64 0, .int .i64 0, .int .i64 0, .bool false] 36)
      have HV23 := Lib.hid (DescAt.new (T := 36) (n := 0) (a := 0) (z := 0) (u := 0) (c := false) w3)
      have HV23B : w2.heap.size ≤ w3.heap.size := HD0.out.size
      have HD23 := Lib.hid (below_two HD0.out b9)
      clear b9
      refine hK.out _ _ ?_ (fun hHeld => ?_)
      · exact HXW.out _ HD23.out
      clear hK K
      try simp only [List.getElem_toArray, List.getElem_cons_succ, List.getElem_cons_zero, Act.put, List.setIfInBounds_toArray, List.set_cons_zero, List.set_cons_succ]
      generalize w3.alloc (.cells #[.int .i64 0, .int .i64 0, .int .i64 0, .int .i64 0, .bool false] 36) = w23 at HD23 HV23  hHeld ⊢
      refine wpAnyH_ready (rs := [1]) (by kernel_rfl) (by simp) (AllReadyH.cons rfl (fun K hK => ?_) AllReadyH.nil)
      go_simp
      refine (HSE.out _ (below_two HB2.out HD23.out)).mono ?_
      rintro e w24 ⟨bm, rfl, -, hm, b9⟩
      have HM24 := Lib.hid hm
      have HD24 := Lib.hid (below_two HD23.out b9)
      have HV24 := Lib.hid (HV23.out.below b9 HV23.out.lt)
      have HV24B := HV23B
      clear b9 hm
      go_wp2_with fail
      refine hK.out _ _ ?_ (fun hHeld => ?_)
      · exact HXW.out _ HD24.out
      clear hK K
      try simp only [List.getElem_toArray, List.getElem_cons_succ, List.getElem_cons_zero, Act.put, List.setIfInBounds_toArray, List.set_cons_zero, List.set_cons_succ]
      refine wpAnyH_ready (rs := [3]) (by kernel_rfl) (by simp) (AllReadyH.cons rfl (fun K hK => ?_) AllReadyH.nil)
      go_simp
      refine (HKO.out _).mono ?_
      rintro e w25 ⟨rfl, b9⟩
      have HM25 := Lib.hid (HM24.out.below b9)
      have HD25 := Lib.hid (below_two HD24.out b9)
      have HV25 := Lib.hid (HV24.out.below b9 HV24.out.lt)
      have HV25B := HV24B
      clear b9
      go_wp2_with fail
      refine hK.out _ _ ?_ (fun hHeld => ?_)
      · exact HXW.out _ HD25.out
      clear hK K
      try simp only [List.getElem_toArray, List.getElem_cons_succ, List.getElem_cons_zero, Act.put, List.setIfInBounds_toArray, List.set_cons_zero, List.set_cons_succ]
      refine wpAnyH_ready (rs := [4]) (by kernel_rfl) (by simp) (AllReadyH.cons rfl (fun K hK => ?_) AllReadyH.nil)
      refine lookS_op _ (.tmp 15) (.tmp 17) rfl bm n (sent t) rfl HM25.out x.mode x.round x.slot rfl HW.out ?_
      rw [← HCC.out, ← HDZ.out]
      unfold dsVal
      try dsimp only
      refine hK.out _ _ ?_ (fun hHeld => ?_)
      · exact HXW.out _ HD25.out
      clear hK K
      try simp only [List.getElem_toArray, List.getElem_cons_succ, List.getElem_cons_zero, Act.put, List.setIfInBounds_toArray, List.set_cons_zero, List.set_cons_succ]
      refine wpAnyH_take (i := 5) (v := ?_) rfl (by kernel_rfl) (by kernel_rfl) (by kernel_rfl) (fun _ _ _ h => h) (Or.inl ⟨by rfl, ?_⟩) (by assumption) ?_
      rotate_left
      · (intro w hSw; (try dsimp only at hSw); go_simp; (try with_reducible rfl))
      try simp only [List.getElem_toArray, List.getElem_cons_succ, List.getElem_cons_zero, Act.put, List.setIfInBounds_toArray, List.set_cons_zero, List.set_cons_succ]
      refine wpAnyH_take (i := 6) (v := ?_) rfl (by kernel_rfl) (by kernel_rfl) (by kernel_rfl) (fun _ _ _ h => h) (Or.inl ⟨by rfl, ?_⟩) (by assumption) ?_
      rotate_left
      · (intro w hSw; (try dsimp only at hSw); go_simp; (try with_reducible rfl))
      try simp only [List.getElem_toArray, List.getElem_cons_succ, List.getElem_cons_zero, Act.put, List.setIfInBounds_toArray, List.set_cons_zero, List.set_cons_succ]
      refine wpAnyH_take (i := 7) (v := ?_) rfl (by kernel_rfl) (by kernel_rfl) (by kernel_rfl) (fun _ _ _ h => h) (Or.inl ⟨by rfl, ?_⟩) (by assumption) ?_
      rotate_left
      · (intro w hSw; (try dsimp only at hSw); go_simp; (try with_reducible rfl))
      try simp only [List.getElem_toArray, List.getElem_cons_succ, List.getElem_cons_zero, Act.put, List.setIfInBounds_toArray, List.set_cons_zero, List.set_cons_succ]
      have c0 := HV25.out.c0; have c1 := HV25.out.c1; have c2 := HV25.out.c2; have c3 := HV25.out.c3; have c4 := HV25.out.c4
      have f0 := HV25.out.f 0; have f1 := HV25.out.f 1; have f2 := HV25.out.f 2; have f3 := HV25.out.f 3; have f4 := HV25.out.f 4
      refine wpAnyH_ready (rs := [9]) (by kernel_rfl) (by simp) (AllReadyH.cons rfl (fun K hK => ?_) AllReadyH.nil)
      go_simp
      clear c0 c1 c2 c3 c4 f0 f1 f2 f3 f4
      change K _ (setDesc w25 w3.heap.size dz.node dz.kind dz.size dz.dur dz.chg)
      have HB27 := Lib.hid (HD25.out.trans (below_desc (B := w2.heap.size) (w := w25) (by have := HV25B; omega) dz.node dz.kind dz.size dz.dur dz.chg))
      generalize setDesc w25 w3.heap.size dz.node dz.kind dz.size dz.dur dz.chg = w27 at HB27 ⊢
      refine hK.out _ _ ?_ (fun hHeld => ?_)
      · exact HXW.out _ HB27.out
      clear hK K
      try simp only [List.getElem_toArray, List.getElem_cons_succ, List.getElem_cons_zero, Act.put, List.setIfInBounds_toArray, List.set_cons_zero, List.set_cons_succ]
      refine wpAnyH_take (i := 10) (v := ?_) rfl (by kernel_rfl) (by kernel_rfl) (by kernel_rfl) (fun _ _ _ h => h) (Or.inl ⟨by rfl, ?_⟩) (by assumption) ?_
      rotate_left
      · (intro w hSw; (try dsimp only at hSw); go_simp; (try with_reducible rfl))
      try simp only [List.getElem_toArray, List.getElem_cons_succ, List.getElem_cons_zero, Act.put, List.setIfInBounds_toArray, List.set_cons_zero, List.set_cons_succ]
      refine wpAnyH_done (by kernel_rfl) ?_ _
      have HBE := Lib.hid (below_two HB.out (below_two HB2.out HB27.out))
      go_wp2_with fail
      go_meet
      exact ⟨_, rfl, rfl, HBE⟩
  case rest =>
    obtain ⟨wx, rfl, rfl, HBE⟩ := hcut
    rcases c with _ | _
    · by_cases h120 : n = 120
      · have HF := Lib.hid (show codeIns t x = 3 from by rw [HCI.out, if_neg (by simp), if_pos (by rw [HL.out]; exact h120)])
        have hz : ((n : Int) == 120) = true := by rw [beq_iff_eq]; omega
        go_wp2_with fail
        go_ret
        rw [HF.out]
        exact ⟨rfl, HBE.out⟩
      · have HF := Lib.hid (show codeIns t x = 0 from by rw [HCI.out, if_neg (by simp), if_neg (by rw [HL.out]; exact h120)])
        have hz : ((n : Int) == 120) = false := by rw [beq_eq_false_iff_ne]; omega
        go_wp2_with fail
        go_ret
        rw [HF.out]
        exact ⟨rfl, HBE.out⟩
    · have HF := Lib.hid (show codeIns t x = 5 from by rw [HCI.out, if_pos rfl])
      go_wp2_with fail
      go_ret
      rw [HF.out]
      exact ⟨rfl, HBE.out⟩
end Go.Proofs.Ytggnoeeaoligdaa
