/-
  Contracts of the program's, the model's and the laws' functions, and plain mathematics, on which a proof of this claim stands (part B).
-/

import Derived.Test.YtljdkckoelgkbaaGreatPxI
import Derived.Test.YtljdkckoelgkbaaGreatPxT
import Derived.Test.YtljdkckoelgkbaaGreatPxN
import Derived.Test.YtljdkckoelgkbaaGreatPxM
import Derived.Test.YtljdkckoelgkbaaGreatPxS
import Derived.Test.YtljdkckoelgkbaaGreatPxZ
import Derived.Test.YtljdkckoelgkbaaGreatPxK
namespace Go.Proofs.YtljdkckoelgkbaaGreat
section
open Go.RowKit
theorem Own.of_alloc_three {E base : Nat} {w : World} (x y z : Int) (hE : base ≤ w.heap.size) : Own E (w.alloc (.cells #[.int .i64 x, .int .i64 y, .int .i64 z] E)) base (.slice (some ⟨w.heap.size, 0, none⟩) 3 3) [x, y, z] :=
  ⟨by simp, .inr ⟨w.heap.size, 3, #[.int .i64 x, .int .i64 y, .int .i64 z], by simp, hE, heap_alloc_new w _, by simp, by unfold maxLen; omega, by simp, by simp⟩⟩
structure BytesOk (m : Me) : Prop where
  id : 0 ≤ m.id ∧ m.id ≤ 16777216
  nb : okB m.nodes
  mb : (modeBytes m.modes).length ≤ 1000000
  el : m.slots.length ≤ 100000
  ein : ∀ x ∈ m.slots, slIn x
theorem Well.bytes {m : Me} (W : Well m) : BytesOk m := by
  have := inR10.1 W.r1
  have := modeBytes_len W.r3
  have := (isSls_iff.1 W.r4).1
  exact ⟨by omega, okB_table W.r2, by omega, by omega, slIn_all W.r4⟩
structure Bk (T : Nat) (w W : World) (v : Mv) : Prop where
  at_ : MvAt T W w.heap.size v
  below : Below w.heap.size w W
section
variable {w W W' : World} {T : Nat} {v : Mv}
theorem Bk.start (w : World) (v : Mv) : Bk T w (w.alloc (.cells #[.int .i64 v.id, .slice v.no v.n.length v.nc, .slice v.mo v.cs.length v.mc, .slice v.eo v.e.length v.ec] T)) v := ⟨MvAt.new w, (Below.refl _ _).alloc (Nat.le_refl _) _⟩
theorem Bk.call (h : Bk T w W v) (b : Below W.heap.size W W') : Bk T w W' v := ⟨h.at_.below b h.at_.lt, below_two h.below b⟩
theorem Bk.more (h : Bk T w W v) (b : Below (w.heap.size + 1) W W') : Bk T w W' v := ⟨h.at_.below b (Nat.lt_succ_self _), h.below.trans (b.mono (Nat.le_succ _))⟩
theorem Bk.size (h : Bk T w W v) : w.heap.size + 1 ≤ W.heap.size := h.at_.lt
end
set_option maxRecDepth 100000 in
set_option maxHeartbeats 4000000 in
theorem l14Bytes_any (v : Mv) (w : World) (hr : RdMe w v) (hk : BytesOk v.me) : Calls Tryz.prog 75 #[mvVal v] w (Makes 2 w (medlBytes v.me)) := by
  have HX := Lib.hid (Bk.start (T := 28) w v)
  have HN := Lib.hid (fun W (hW : Below w.heap.size w W) => l10Bytes_any v.no v.n.length v.nc v.n W (hr.below hW).rn hr.nl hk.nb)
  have HM := Lib.hid (fun W (hW : Below w.heap.size w W) => l11Bytes_any v.mo v.cs.length v.mc v.cs W (hr.below hW).rm hr.ml (show (modeBytes (mds v.cs)).length ≤ 1048576 from Nat.le_trans hk.mb (by omega)))
  have HE := Lib.hid (fun W (hW : Below w.heap.size w W) => l12Bytes_any v.eo v.e.length v.ec v.e W (hr.below hW).re hk.el hk.ein)
  obtain ⟨hi0, hi1⟩ : 0 ≤ v.id ∧ v.id ≤ 16777216 := hk.id
  have hl1 : (tabBytes v.n).length ≤ 1000000 := hk.nb.1
  have hl2 : (modeBytes (mds v.cs)).length ≤ 1000000 := hk.mb
  have hl3 := slotBytes_len v.e
  have hl4 : v.e.length ≤ 100000 := hk.el
  have hd1 : Int.tdiv v.id 65536 = v.id / 65536 := Int.tdiv_eq_ediv_of_nonneg hi0
  have hd2 : Int.tdiv v.id 256 = v.id / 256 := Int.tdiv_eq_ediv_of_nonneg hi0
  have hm0 : 0 ≤ v.id / 256 := by omega
  have hw1 : IntKind.i64.wrap (v.id / 65536) = v.id / 65536 := by rw [IntKind.wrap_i64]; omega
  have hw2 : IntKind.i64.wrap (v.id / 256) = v.id / 256 := by rw [IntKind.wrap_i64]; omega
  have hme : medlBytes v.me = ((([v.id / 65536, v.id / 256 % 256, v.id % 256] ++ tabBytes v.n) ++ modeBytes (mds v.cs)) ++ slotBytes v.e) := by
    simp only [medlBytes, idBytes, Mv.me, List.append_assoc]
  rw [hme]
  obtain ⟨xs, hxs⟩ : ∃ xs, xs = [v.id / 65536, v.id / 256 % 256, v.id % 256] := ⟨_, rfl⟩
  rw [← hxs]
  have hx3 : xs.length ≤ 3 := by rw [hxs]; simp
  have HXS := Lib.hid hxs
  clear hr hk hme hxs
  generalize tabBytes v.n = b1 at HN hl1 ⊢
  generalize modeBytes (mds v.cs) = b2 at HM hl2 ⊢
  generalize slotBytes v.e = b3 at HE hl3 ⊢
  have hl5 : b3.length ≤ 1000000 := by omega
  clear hl3
  unfold mvVal
  go_enter Tryz.func75, Tryz.ntmps75
  go_upto_region 1 with fail
  generalize w.alloc (.cells #[.int .i64 v.id, .slice v.no v.n.length v.nc, .slice v.mo v.cs.length v.mc, .slice v.eo v.e.length v.ec] 28) = w1 at HX ⊢
  obtain ⟨z0, z1, z2, z3⟩ := HX.out.at_.all
  have ho1 := Own.of_alloc_three (E := 2) (v.id / 65536) (v.id / 256 % 256) (v.id % 256) HX.out.size
  rw [← HXS.out] at ho1
  have HO1 := Lib.hid ho1
  clear ho1
  have HX2 := Lib.hid (HX.out.call ((Below.refl w1.heap.size w1).alloc (Nat.le_refl _) (.cells #[.int .i64 (v.id / 65536), .int .i64 (v.id / 256 % 256), .int .i64 (v.id % 256)] 2)))
  go_upto_region 2 with fail
  generalize w1.alloc (.cells #[.int .i64 (v.id / 65536), .int .i64 (v.id / 256 % 256), .int .i64 (v.id % 256)] 2) = w2 at HO1 HX2 ⊢
  generalize w1.heap.size = K at HO1 ⊢
  clear z0 z1 z2 z3 HX hd1 hd2 hw1 hw2 hm0
  obtain ⟨q0, q1, q2, q3⟩ := HX2.out.at_.all
  go_wp2_with fail
  refine (HN.out _ HX2.out.below).mono ?_
  rintro e u1 m1
  obtain ⟨p1, c1, rfl, -, r1, a1⟩ := m1.get
  have HR1 := Lib.hid r1
  have HY1 := Lib.hid (HX2.out.call a1)
  have HP1 := Lib.hid (HO1.out.below a1)
  have hs1 := HY1.out.size
  clear q0 q1 q2 q3 m1 r1 a1 HX2 HO1 HN
  go_wp2_with (at_builtin; refine append_list _ rfl (.tmp 15) (.tmp 18) rfl (w.heap.size + 1) Tryz.underlying35 info64 _ xs rfl HP1.out _ _ _ b1 rfl HR1.out (by omega) hs1 ?_; intro v1 w1z o1 g1; have HX1z := Lib.hid (HY1.out.more g1); have HO1z := Lib.hid o1; obtain ⟨q0, q1, q2, q3⟩ := HX1z.out.at_.all)
  clear HY1 HP1 HR1 hs1 o1 g1
  refine (HM.out _ HX1z.out.below).mono ?_
  rintro e u2 m2
  obtain ⟨p2, c2, rfl, -, r2, a2⟩ := m2.get
  have HR2 := Lib.hid r2
  have HY2 := Lib.hid (HX1z.out.call a2)
  have HP2 := Lib.hid (HO1z.out.below a2)
  have hs2 := HY2.out.size
  clear q0 q1 q2 q3 m2 r2 a2 HX1z HO1z HM
  go_wp2_with (at_builtin; refine append_list _ rfl (.tmp 20) (.tmp 23) rfl (w.heap.size + 1) Tryz.underlying35 info64 _ (xs ++ b1) rfl HP2.out _ _ _ b2 rfl HR2.out (by rw [List.length_append]; omega) hs2 ?_; intro v2 w2z o2 g2; have HX2z := Lib.hid (HY2.out.more g2); have HO2z := Lib.hid o2; obtain ⟨q0, q1, q2, q3⟩ := HX2z.out.at_.all)
  clear HY2 HP2 HR2 hs2 o2 g2
  refine (HE.out _ HX2z.out.below).mono ?_
  rintro e u3 m3
  obtain ⟨p3, c3, rfl, -, r3, a3⟩ := m3.get
  have HR3 := Lib.hid r3
  have HY3 := Lib.hid (HX2z.out.call a3)
  have HP3 := Lib.hid (HO2z.out.below a3)
  have hs3 := HY3.out.size
  clear q0 q1 q2 q3 m3 r3 a3 HX2z HO2z HE
  go_wp2_with (at_builtin; refine append_list _ rfl (.tmp 25) (.tmp 28) rfl (w.heap.size + 1) Tryz.underlying35 info64 _ ((xs ++ b1) ++ b2) rfl HP3.out _ _ _ b3 rfl HR3.out (by rw [List.length_append, List.length_append]; omega) hs3 ?_; intro v3 w3z o3 g3; have HX3z := Lib.hid (HY3.out.more g3); have HO3z := Lib.hid o3; obtain ⟨q0, q1, q2, q3⟩ := HX3z.out.at_.all)
  clear HY3 HP3 HR3 hs3 o3 g3
  go_ret
  exact ⟨v3, rfl, HO3z.out.more (Nat.le_succ _), HX3z.out.below⟩
set_option maxRecDepth 100000 in
set_option maxHeartbeats 4000000 in
theorem sScheduleBytes_any (v : Mv) (w : World) (hr : RdMe w v) : Calls Tryz.prog 28 #[mvVal v] w (Makes2 2 w (scheduleBytes v.me).1 (scheduleBytes v.me).2) := by
  have HX := Lib.hid (Bk.start (T := 28) w v)
  have HC := Lib.hid (fun W (hW : Below w.heap.size w W) => sIsMedl_any v W (hr.below hW))
  have HRD := Lib.hid (fun W (hW : Below w.heap.size w W) => hr.below hW)
  clear hr
  rcases hm : isMedl v.me with _ | _
  · rw [show scheduleBytes v.me = ([], 1) from by unfold scheduleBytes; rw [if_pos hm]]
    rw [hm] at HC
    clear hm
    unfold mvVal at HC ⊢
    go_enter Tryz.func28, Tryz.ntmps28
    go_upto_region 1 with fail
    generalize w.alloc (.cells #[.int .i64 v.id, .slice v.no v.n.length v.nc, .slice v.mo v.cs.length v.mc, .slice v.eo v.e.length v.ec] 28) = w1 at HX ⊢
    obtain ⟨z0, z1, z2, z3⟩ := HX.out.at_.all
    go_wp2_with fail
    refine (HC.out _ HX.out.below).mono ?_
    rintro e w2 ⟨rfl, b2⟩
    clear z0 z1 z2 z3
    go_wp2_with fail
    go_ret2
    exact ⟨_, rfl, Own.nil_, below_two HX.out.below b2⟩
  · rw [show scheduleBytes v.me = (medlBytes v.me, 0) from by unfold scheduleBytes; rw [if_neg (by rw [hm]; simp)]]
    have hk := (medl_iff.1 hm).bytes
    have HB := Lib.hid (fun W (hW : Below w.heap.size w W) => l14Bytes_any v W (HRD.out W hW) hk)
    rw [hm] at HC
    change Calls _ _ _ _ (Makes2 2 w (medlBytes v.me) 0)
    generalize medlBytes v.me = bs at HB ⊢
    clear hm hk HRD
    unfold mvVal at HC HB ⊢
    go_enter Tryz.func28, Tryz.ntmps28
    go_upto_region 1 with fail
    generalize w.alloc (.cells #[.int .i64 v.id, .slice v.no v.n.length v.nc, .slice v.mo v.cs.length v.mc, .slice v.eo v.e.length v.ec] 28) = w1 at HX ⊢
    obtain ⟨z0, z1, z2, z3⟩ := HX.out.at_.all
    go_wp2_with fail
    refine (HC.out _ HX.out.below).mono ?_
    rintro e w2 ⟨rfl, b2⟩
    have HX2 := Lib.hid (HX.out.call b2)
    clear z0 z1 z2 z3 b2 HX HC
    obtain ⟨z0, z1, z2, z3⟩ := HX2.out.at_.all
    go_wp2_with fail
    refine (HB.out _ HX2.out.below).mono ?_
    rintro e w3 ⟨v3, rfl, o3, b3⟩
    have HO3 := Lib.hid (o3.more HX2.out.below.size)
    have HX3 := Lib.hid (HX2.out.call b3)
    clear z0 z1 z2 z3 o3 b3 HX2
    go_wp2_with fail
    go_ret2
    exact ⟨_, rfl, HO3.out, HX3.out.below⟩
theorem cat_four (T : Nat → List Int) : catI T 4 = T 0 ++ (T 1 ++ (T 2 ++ T 3)) := by simp [catI]
set_option maxRecDepth 100000 in
set_option maxHeartbeats 4000000 in
theorem scheduleBytes_any (v : Mv) (w : World) (hr : RdMe w v) : Calls Tryz.prog 30 #[mvVal v] w (Makes2 2 w (scheduleBytes v.me).1 (scheduleBytes v.me).2) := by
  have HX := Lib.hid (Bk.start (T := 28) w v)
  have HC := Lib.hid (fun W (hW : Below w.heap.size w W) => isMedl_any v W (hr.below hW))
  rcases hm : isMedl v.me with _ | _
  · rw [show scheduleBytes v.me = ([], 1) from by unfold scheduleBytes; rw [if_pos hm]]
    rw [hm] at HC
    clear hm hr
    unfold mvVal at HC ⊢
    go_enter Tryz.func30, Tryz.ntmps30
    go_upto_region 1 with fail
    generalize w.alloc (.cells #[.int .i64 v.id, .slice v.no v.n.length v.nc, .slice v.mo v.cs.length v.mc, .slice v.eo v.e.length v.ec] 28) = w1 at HX ⊢
    obtain ⟨z0, z1, z2, z3⟩ := HX.out.at_.all
    go_wp2_with fail
    refine (HC.out _ HX.out.below).mono ?_
    rintro e w2 ⟨rfl, b2⟩
    clear z0 z1 z2 z3
    go_wp2_with fail
    go_ret2
    exact ⟨_, rfl, Own.nil_, below_two HX.out.below b2⟩
  · rw [show scheduleBytes v.me = (medlBytes v.me, 0) from by unfold scheduleBytes; rw [if_neg (by rw [hm]; simp)]]
    have hW := medl_iff.1 hm
    have r2 : isTable v.n = true := hW.r2
    have r3 : isModes (mds v.cs) = true := hW.r3
    have r4 : isSls v.e = true := hW.r4
    have hid : 1 ≤ v.id ∧ v.id ≤ 16777215 := inR10.1 hW.r1
    have HN := Lib.hid (fun W (hW : Below w.heap.size w W) => (show Calls Tryz.prog 79 #[.slice v.no v.n.length v.nc] W (Makes2 2 W (tabBytes v.n) 0) from by
      have h := nodeTableBytes_any v.no v.n.length v.nc v.n W (hr.below hW).rn hr.nle hr.ncap hr.ns
      rwa [show nodeTableBytes v.n = (tabBytes v.n, 0) from by unfold nodeTableBytes; rw [if_pos r2]] at h))
    have HM := Lib.hid (fun W (hW : Below w.heap.size w W) => (show Calls Tryz.prog 80 #[.slice v.mo v.cs.length v.mc] W (Makes2 2 W (modeBytes (mds v.cs)) 0) from by
      have h := modeBytesI_any v.mo v.cs.length v.mc v.cs W (hr.below hW).rm hr.ml hr.ms
      rwa [show modeTableBytes (mds v.cs) = (modeBytes (mds v.cs), 0) from by unfold modeTableBytes; rw [if_pos r3]] at h))
    have HE := Lib.hid (fun W (hW : Below w.heap.size w W) => (show Calls Tryz.prog 81 #[.slice v.eo v.e.length v.ec] W (Makes2 2 W (slotBytes v.e) 0) from by
      have h := slotBytesI_any v.eo v.e.length v.ec v.e W (hr.below hW).re hr.el
      rwa [show slotTableBytes v.e = (slotBytes v.e, 0) from by unfold slotTableBytes; rw [if_pos r4]] at h))
    have HI := Lib.hid (fun W => bytesOfNumber_any v.id W ⟨by omega, by omega⟩)
    have hl1 := tabBytes_len r2
    have hl2 := modeBytes_len r3
    have hl3 := slotBytes_len v.e
    have hl4 := (isSls_iff.1 r4).1
    have hme : medlBytes v.me = three v.id ++ (tabBytes v.n ++ (modeBytes (mds v.cs) ++ slotBytes v.e)) := rfl
    rw [hm] at HC
    rw [hme]
    change Calls _ _ _ _ (Makes2 2 w (three v.id ++ (tabBytes v.n ++ (modeBytes (mds v.cs) ++ slotBytes v.e))) 0)
    have hl5 : (three v.id).length = 3 := rfl
    clear hm hW r2 r3 r4 hid hme hr
    generalize tabBytes v.n = b1 at HN hl1 ⊢
    generalize modeBytes (mds v.cs) = b2 at HM hl2 ⊢
    generalize slotBytes v.e = b3 at HE hl3 ⊢
    generalize three v.id = b0 at HI hl5 ⊢
    have hl6 : 1 ≤ b0.length ∧ b0.length ≤ 3 := by omega
    have hl7 : b3.length ≤ 1000 := by omega
    clear hl5 hl3
    unfold mvVal at HC ⊢
    go_enter Tryz.func30, Tryz.ntmps30
    go_upto_region 1 with fail
    generalize w.alloc (.cells #[.int .i64 v.id, .slice v.no v.n.length v.nc, .slice v.mo v.cs.length v.mc, .slice v.eo v.e.length v.ec] 28) = w1 at HX ⊢
    obtain ⟨z0, z1, z2, z3⟩ := HX.out.at_.all
    go_wp2_with fail
    refine (HC.out _ HX.out.below).mono ?_
    rintro e w2 ⟨rfl, a2⟩
    have HXb := Lib.hid (HX.out.call a2)
    clear z0 z1 z2 z3 a2 HX HC
    obtain ⟨z0, z1, z2, z3⟩ := HXb.out.at_.all
    go_wp2_with fail
    refine (HN.out _ HXb.out.below).mono ?_
    rintro e u1 m1
    obtain ⟨p1, c1, rfl, -, r1, a1⟩ := m1.get
    have HX1 := Lib.hid (HXb.out.call a1)
    have HR1 := Lib.hid r1
    clear z0 z1 z2 z3 m1 r1 a1 HXb HN
    obtain ⟨z0, z1, z2, z3⟩ := HX1.out.at_.all
    go_wp2_with fail
    refine (HM.out _ HX1.out.below).mono ?_
    rintro e u2 m2
    obtain ⟨p2, c2, rfl, -, r2, a2⟩ := m2.get
    have HX2 := Lib.hid (HX1.out.call a2)
    have HR1_ := Lib.hid (HR1.out.below a2); clear HR1; have HR1 := HR1_; clear HR1_
    have HR2 := Lib.hid r2
    clear z0 z1 z2 z3 m2 r2 a2 HX1 HM
    obtain ⟨z0, z1, z2, z3⟩ := HX2.out.at_.all
    go_wp2_with fail
    refine (HE.out _ HX2.out.below).mono ?_
    rintro e u3 m3
    obtain ⟨p3, c3, rfl, -, r3, a3⟩ := m3.get
    have HX3 := Lib.hid (HX2.out.call a3)
    have HR1_ := Lib.hid (HR1.out.below a3); clear HR1; have HR1 := HR1_; clear HR1_
    have HR2_ := Lib.hid (HR2.out.below a3); clear HR2; have HR2 := HR2_; clear HR2_
    have HR3 := Lib.hid r3
    clear z0 z1 z2 z3 m3 r3 a3 HX2 HE
    obtain ⟨z0, z1, z2, z3⟩ := HX3.out.at_.all
    go_wp2_with fail
    refine (HI.out _).mono ?_
    rintro e u4 m4
    obtain ⟨p4, c4, rfl, -, r4, a4⟩ := m4.get
    have HX4 := Lib.hid (HX3.out.call a4)
    have HR1_ := Lib.hid (HR1.out.below a4); have HR2_ := Lib.hid (HR2.out.below a4); have HR3_ := Lib.hid (HR3.out.below a4); have HR4 := Lib.hid r4
    clear HR1 HR2 HR3 z0 z1 z2 z3 m4 r4 a4 HX3 HI
    have ba := (Below.refl u4.heap.size u4).alloc (Nat.le_refl _) (.cells #[.slice p4 b0.length c4, .slice p1 b1.length c1, .slice p2 b2.length c2, .slice p3 b3.length c3] 35)
    have HXA := Lib.hid (HX4.out.call ba)
    have HCN := Lib.hid (concatI_any u4.heap.size 4 4 (fun i => if i = 0 then p4 else if i = 1 then p1 else if i = 2 then p2 else p3) (fun i => if i = 0 then b0.length else if i = 1 then b1.length else if i = 2 then b2.length else b3.length) (fun i => if i = 0 then c4 else if i = 1 then c1 else if i = 2 then c2 else c3) (fun i => if i = 0 then b0 else if i = 1 then b1 else if i = 2 then b2 else b3) (u4.alloc (.cells #[.slice p4 b0.length c4, .slice p1 b1.length c1, .slice p2 b2.length c2, .slice p3 b3.length c3] 35)) (by omega)
      (fun i hi => by
        rw [World.cell?_alloc_at _ _ _ _ rfl]
        match i, hi with
        | 0, _ => rfl
        | 1, _ => rfl
        | 2, _ => rfl
        | 3, _ => rfl)
      (fun i hi => by
        match i, hi with
        | 0, _ => exact HR4.out.below ba
        | 1, _ => exact HR1_.out.below ba
        | 2, _ => exact HR2_.out.below ba
        | 3, _ => exact HR3_.out.below ba)
      (fun i => by
        split
        · omega
        · split
          · omega
          · split
            · omega
            · omega)
      (by simp only [sumI]; simp; omega) (by rw [World.size_alloc]; omega))
    rw [cat_four] at HCN
    simp only [if_true, show (1 : Nat) ≠ 0 from by omega, show (2 : Nat) ≠ 0 from by omega, show (2 : Nat) ≠ 1 from by omega, show (3 : Nat) ≠ 0 from by omega, show (3 : Nat) ≠ 1 from by omega, show (3 : Nat) ≠ 2 from by omega, if_false] at HCN
    clear ba HR1_ HR2_ HR3_ HR4 HX4
    go_wp2_with fail
    refine HCN.out.mono ?_
    rintro e u5 m5
    obtain ⟨v5, rfl, o5, a5⟩ := m5
    have HO5 := Lib.hid (o5.more HXA.out.below.size)
    have HX5 := Lib.hid (HXA.out.call a5)
    clear o5 a5 HCN HXA
    go_wp2_with fail
    go_ret2
    exact ⟨_, rfl, HO5.out, HX5.out.below⟩
end

section
open Go.RowKit
theorem ei_1 {m : Me} (h : isMedl m = false) : encodeImage m = ([], 1) := by unfold encodeImage; rw [if_pos h]
theorem ei_3 {m : Me} (h : isMedl m = true) (hl : 868 < (medlBytes m).length) : encodeImage m = ([], 3) := by unfold encodeImage; rw [if_neg (by rw [h]; simp), if_pos hl]
theorem ei_0 {m : Me} (h : isMedl m = true) (hl : ¬ 868 < (medlBytes m).length) : encodeImage m = (image9 (medlBytes m), 0) := by unfold encodeImage; rw [if_neg (by rw [h]; simp), if_neg hl]
theorem schb_1 {m : Me} (h : isMedl m = false) : scheduleBytes m = ([], 1) := by unfold scheduleBytes; rw [if_pos h]
theorem schb_0 {m : Me} (h : isMedl m = true) : scheduleBytes m = (medlBytes m, 0) := by unfold scheduleBytes; rw [if_neg (by rw [h]; simp)]
set_option maxRecDepth 100000 in
set_option maxHeartbeats 4000000 in
theorem encodeImage_any (v : Mv) (w : World) (hr : RdMe w v) : Calls Tryz.prog 37 #[mvVal v] w (Makes2 2 w (encodeImage v.me).1 (encodeImage v.me).2) := by
  have HX := Lib.hid (Bk.start (T := 28) w v)
  have HC := Lib.hid (fun W (hW : Below w.heap.size w W) => scheduleBytes_any v W (hr.below hW))
  clear hr
  rcases hm : isMedl v.me with _ | _
  · rw [ei_1 hm]
    rw [schb_1 hm] at HC
    clear hm
    unfold mvVal at HC ⊢
    go_enter Tryz.func37, Tryz.ntmps37
    go_upto_region 1 with fail
    generalize w.alloc (.cells #[.int .i64 v.id, .slice v.no v.n.length v.nc, .slice v.mo v.cs.length v.mc, .slice v.eo v.e.length v.ec] 28) = w1 at HX ⊢
    obtain ⟨z0, z1, z2, z3⟩ := HX.out.at_.all
    go_wp2_with fail
    refine (HC.out _ HX.out.below).mono ?_
    rintro e w2 m2
    obtain ⟨p2, c2, rfl, -, -, b2⟩ := m2.get
    clear z0 z1 z2 z3
    go_wp2_with fail
    go_ret2
    exact ⟨_, rfl, Own.nil_, below_two HX.out.below b2⟩
  · have hby := medlBytes_in hm
    have hlen := medlBytes_len hm
    have h3 := ei_3 hm; have h0 := ei_0 hm
    rw [schb_0 hm] at HC
    by_cases hl : 868 < (medlBytes v.me).length
    · rw [h3 hl]
      generalize medlBytes v.me = bs at HC hl hlen
      have hli : (868 : Int) < (bs.length : Int) := by omega
      clear hm h3 h0 hby hl hlen
      unfold mvVal at HC ⊢
      go_enter Tryz.func37, Tryz.ntmps37
      go_upto_region 1 with fail
      generalize w.alloc (.cells #[.int .i64 v.id, .slice v.no v.n.length v.nc, .slice v.mo v.cs.length v.mc, .slice v.eo v.e.length v.ec] 28) = w1 at HX ⊢
      obtain ⟨z0, z1, z2, z3⟩ := HX.out.at_.all
      go_wp2_with fail
      refine (HC.out _ HX.out.below).mono ?_
      rintro e w2 m2
      obtain ⟨p2, c2, rfl, -, -, b2⟩ := m2.get
      clear z0 z1 z2 z3
      go_wp2_with fail
      go_ret2
      exact ⟨_, rfl, Own.nil_, below_two HX.out.below b2⟩
    · rw [h0 hl]
      generalize medlBytes v.me = bs at HC hl hlen hby
      have hbb : isBytes bs = true := isBytes_iff.2 ⟨by omega, hby⟩
      have HI := Lib.hid (fun po co W (h : Rd W po bs.length bs) (h1 : bs.length ≤ co) (h2 : co ≤ 9223372036854775807) => (show Calls Tryz.prog 92 #[.slice po bs.length co] W (Makes2 2 W (image9 bs) 0) from by
        have g := imageOf_any po co bs W h (by omega) h1 h2
        rwa [show imageOf bs = (image9 bs, 0) from by unfold imageOf; rw [if_neg (by rw [hbb]; simp), if_neg hl]] at g))
      change Calls _ _ _ _ (Makes2 2 w (image9 bs) 0)
      generalize image9 bs = img at HI ⊢
      have hli : ¬ (868 : Int) < (bs.length : Int) := by omega
      clear hm h3 h0 hby hl hlen hbb
      unfold mvVal at HC ⊢
      go_enter Tryz.func37, Tryz.ntmps37
      go_upto_region 1 with fail
      generalize w.alloc (.cells #[.int .i64 v.id, .slice v.no v.n.length v.nc, .slice v.mo v.cs.length v.mc, .slice v.eo v.e.length v.ec] 28) = w1 at HX ⊢
      obtain ⟨z0, z1, z2, z3⟩ := HX.out.at_.all
      go_wp2_with fail
      refine (HC.out _ HX.out.below).mono ?_
      rintro e w2 m2
      obtain ⟨p2, c2, rfl, o2, r2, b2⟩ := m2.get
      have hcc := Own.cap o2
      have HR2 := Lib.hid r2
      have HX2 := Lib.hid (HX.out.call b2)
      clear z0 z1 z2 z3 m2 o2 r2 b2 HC HX
      go_wp2_with fail
      refine (HI.out _ _ _ HR2.out hcc.1 hcc.2).mono ?_
      rintro e w3 m3
      obtain ⟨v3, rfl, o3, b3⟩ := m3
      have HO3 := Lib.hid (o3.more HX2.out.below.size)
      have HX3 := Lib.hid (HX2.out.call b3)
      clear o3 b3 HX2
      go_wp2_with fail
      go_ret2
      exact ⟨v3, rfl, HO3.out, HX3.out.below⟩
set_option maxRecDepth 100000 in
set_option maxHeartbeats 4000000 in
theorem sEncodeImage_any (v : Mv) (w : World) (hr : RdMe w v) : Calls Tryz.prog 36 #[mvVal v] w (Makes2 2 w (encodeImage v.me).1 (encodeImage v.me).2) := by
  have HX := Lib.hid (Bk.start (T := 28) w v)
  have HC := Lib.hid (fun W (hW : Below w.heap.size w W) => sIsMedl_any v W (hr.below hW))
  rcases hm : isMedl v.me with _ | _
  · rw [ei_1 hm]
    rw [hm] at HC
    clear hm hr
    unfold mvVal at HC ⊢
    go_enter Tryz.func36, Tryz.ntmps36
    go_upto_region 1 with fail
    generalize w.alloc (.cells #[.int .i64 v.id, .slice v.no v.n.length v.nc, .slice v.mo v.cs.length v.mc, .slice v.eo v.e.length v.ec] 28) = w1 at HX ⊢
    obtain ⟨z0, z1, z2, z3⟩ := HX.out.at_.all
    go_wp2_with fail
    refine (HC.out _ HX.out.below).mono ?_
    rintro e w2 ⟨rfl, b2⟩
    clear z0 z1 z2 z3
    go_wp2_with fail
    go_ret2
    exact ⟨_, rfl, Own.nil_, below_two HX.out.below b2⟩
  · have hby := medlBytes_in hm
    have hlen := medlBytes_len hm
    have h3 := ei_3 hm; have h0 := ei_0 hm
    have hk := (medl_iff.1 hm).bytes
    have HB := Lib.hid (fun W (hW : Below w.heap.size w W) => l14Bytes_any v W (hr.below hW) hk)
    rw [hm] at HC
    clear hr
    by_cases hl : 868 < (medlBytes v.me).length
    · rw [h3 hl]
      generalize medlBytes v.me = bs at HB hl hlen
      have HF := Lib.hid (fun W => (show Calls Tryz.prog 90 #[.int .i64 (bs.length : Int)] W fun e w' => e = .returned (.bool false) ∧ W = w' from by
        have h := l09Fits_any (bs.length : Int) W
        rwa [show inRange 0 868 (bs.length : Int) = false from by simp [inRange]; omega] at h))
      clear hm h3 h0 hby hl hlen hk
      unfold mvVal at HB
      unfold mvVal at HC ⊢
      go_enter Tryz.func36, Tryz.ntmps36
      go_upto_region 1 with fail
      generalize w.alloc (.cells #[.int .i64 v.id, .slice v.no v.n.length v.nc, .slice v.mo v.cs.length v.mc, .slice v.eo v.e.length v.ec] 28) = w1 at HX ⊢
      obtain ⟨z0, z1, z2, z3⟩ := HX.out.at_.all
      go_wp2_with fail
      refine (HC.out _ HX.out.below).mono ?_
      rintro e w2 ⟨rfl, b2⟩
      have HX2 := Lib.hid (HX.out.call b2)
      clear z0 z1 z2 z3 b2 HX HC
      obtain ⟨z0, z1, z2, z3⟩ := HX2.out.at_.all
      go_wp2_with fail
      refine (HB.out _ HX2.out.below).mono ?_
      rintro e w3 m3
      obtain ⟨p3, c3, rfl, -, -, b3⟩ := m3.get
      have HX3 := Lib.hid (HX2.out.call b3)
      clear z0 z1 z2 z3 b3 m3 HX2 HB
      go_wp2_with fail
      refine (HF.out _).mono ?_
      rintro e w4 ⟨rfl, rfl⟩
      go_wp2_with fail
      go_ret2
      exact ⟨_, rfl, Own.nil_, HX3.out.below⟩
    · rw [h0 hl]
      generalize medlBytes v.me = bs at HB hl hlen hby
      have hbb : isBytes bs = true := isBytes_iff.2 ⟨by omega, hby⟩
      have HF := Lib.hid (fun W => (show Calls Tryz.prog 90 #[.int .i64 (bs.length : Int)] W fun e w' => e = .returned (.bool true) ∧ W = w' from by
        have h := l09Fits_any (bs.length : Int) W
        rwa [show inRange 0 868 (bs.length : Int) = true from by simp [inRange]; omega] at h))
      have HI := Lib.hid (fun po co W (h : Rd W po bs.length bs) (h1 : bs.length ≤ co) (h2 : co ≤ 9223372036854775807) => l09Image_any po bs.length co bs W h hbb (by omega) h1 h2)
      change Calls _ _ _ _ (Makes2 2 w (image9 bs) 0)
      generalize image9 bs = img at HI ⊢
      clear hm h3 h0 hby hl hlen hbb hk
      unfold mvVal at HB
      unfold mvVal at HC ⊢
      go_enter Tryz.func36, Tryz.ntmps36
      go_upto_region 1 with fail
      generalize w.alloc (.cells #[.int .i64 v.id, .slice v.no v.n.length v.nc, .slice v.mo v.cs.length v.mc, .slice v.eo v.e.length v.ec] 28) = w1 at HX ⊢
      obtain ⟨z0, z1, z2, z3⟩ := HX.out.at_.all
      go_wp2_with fail
      refine (HC.out _ HX.out.below).mono ?_
      rintro e w2 ⟨rfl, b2⟩
      have HX2 := Lib.hid (HX.out.call b2)
      clear z0 z1 z2 z3 b2 HX HC
      obtain ⟨z0, z1, z2, z3⟩ := HX2.out.at_.all
      go_wp2_with fail
      refine (HB.out _ HX2.out.below).mono ?_
      rintro e w3 m3
      obtain ⟨p3, c3, rfl, o3, r3, b3⟩ := m3.get
      have hcc := Own.cap o3
      have HR3 := Lib.hid r3
      have HX3 := Lib.hid (HX2.out.call b3)
      clear z0 z1 z2 z3 b3 m3 o3 r3 HX2 HB
      go_wp2_with fail
      refine (HF.out _).mono ?_
      rintro e w4 ⟨rfl, rfl⟩
      go_wp2_with fail
      refine (HI.out _ _ _ HR3.out hcc.1 hcc.2).mono ?_
      rintro e w5 m5
      obtain ⟨v5, rfl, o5, b5⟩ := m5
      have HO5 := Lib.hid (o5.more HX3.out.below.size)
      have HX5 := Lib.hid (HX3.out.call b5)
      clear o5 b5 HX3
      go_wp2_with fail
      go_ret2
      exact ⟨v5, rfl, HO5.out, HX5.out.below⟩
end
end Go.Proofs.YtljdkckoelgkbaaGreat
