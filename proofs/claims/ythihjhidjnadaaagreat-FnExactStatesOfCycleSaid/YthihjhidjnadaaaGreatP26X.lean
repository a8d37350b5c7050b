/-
  Contracts of the program's, the model's and the laws' functions, and plain mathematics, on which a proof of this claim stands (part X).
-/

import Derived.Test.YthihjhidjnadaaaGreatP26U
import Derived.Test.YthihjhidjnadaaaGreatP26I
import Derived.Test.YthihjhidjnadaaaGreatP26A
import Derived.Test.YthihjhidjnadaaaGreatP26N
namespace Go.Proofs.YthihjhidjnadaaaGreat
section
open Go.RowKit
structure NzL (w W : World) (b : Nat) (v : Mv) (d : Int) (sv : Value) (x : Ss) : Prop where
  ls : Ls w W b v d sv w.heap.size x
  res : StateAt 30 W (w.heap.size + 1) 0 0 0 0 0
  lt : b < w.heap.size
  rd0 : RdMe w v
section
variable {w W W' : World} {b : Nat} {v : Mv} {d : Int} {sv : Value} {x : Ss}
theorem NzL.call (h : NzL w W b v d sv x) (hb : Below W.heap.size W W') : NzL w W' b v d sv x := ⟨h.ls.call hb, StateAt.below h.res hb (StateAt.lt h.res), h.lt, h.rd0⟩
theorem NzL.drew (h : NzL w W b v d sv x) : NzL w W.drew b v d sv x := h.call (Below.drew (Below.refl _ _))
theorem NzL.st (h : NzL w W b v d sv x) : SsAt W w.heap.size x := h.ls.st
theorem NzL.lk (h : NzL w W b v d sv x) : LkAt W b v d 0 sv := h.ls.lk
theorem NzL.start (hl : LkAt w b v d 0 sv) (hr : RdMe w v) : NzL w ((w.alloc (.cells #[.int .i64 x.t, .int .i64 x.m, .int .i64 x.r, .int .i64 x.s, .int .i64 x.k] 30)).alloc (.cells #[.int .i64 0, .int .i64 0, .int .i64 0, .int .i64 0, .int .i64 0] 30)) b v d sv x := by
  have h := (Ls.start (x := x) hl hr).call ((Below.refl _ _).alloc (Nat.le_refl _) (.cells #[.int .i64 0, .int .i64 0, .int .i64 0, .int .i64 0, .int .i64 0] 30))
  refine ⟨h, ?_, hl.lt, hr⟩
  have e : w.heap.size + 1 = (w.alloc (.cells #[.int .i64 x.t, .int .i64 x.m, .int .i64 x.r, .int .i64 x.s, .int .i64 x.k] 30)).heap.size := by simp
  rw [e]
  exact StateAt.new _
theorem NzL.other (h : NzL w W b v d sv x) {K : Nat} (hK : w.heap.size + 1 < K) (g : W.grownBy W' (some K)) : NzL w W' b v d sv x := by
  have hlt := h.lt
  have hb : Below w.heap.size w W' := h.ls.below.grown g h.ls.below.size (fun k hk => by cases hk; omega)
  exact ⟨⟨h.ls.lk.grown g (fun e => by injection e; omega), StateAt.grown h.ls.st g (fun e => by injection e; omega), h.rd0.below hb, hb⟩, StateAt.grown h.res g (fun e => by injection e; omega), h.lt, h.rd0⟩
end
theorem grown_fiveL (w : World) (b : Nat) (t m r s k : Int) : w.grownBy (setFive w b t m r s k) (some b) :=
  grown_trans (grown_trans (grown_trans (grown_trans (grown_set' w b 0 _) (grown_set' _ b 1 _)) (grown_set' _ b 2 _)) (grown_set' _ b 3 _)) (grown_set' _ b 4 _)
theorem Lies.advance {m : Me} {x : Ss} {j R S r s : Nat} (W : Well m) (h : Lies m x j R S r s) (w : World) :
    Calls Tryz.prog 130 #[ssVal x, .int .i64 (descOf m x).dur, .int .i64 (S : Int), .int .i64 (R : Int)] w fun e w' => e = .returned (.tuple #[ssVal (nextOf m x), .int .i64 0]) ∧ Below w.heap.size w w' := by
  have hA := isState_iff.2 (show (0 ≤ x.t ∧ x.t ≤ 65535) ∧ (0 ≤ x.m ∧ x.m ≤ 15) ∧ (0 ≤ x.r ∧ x.r ≤ 15) ∧ (0 ≤ x.s ∧ x.s ≤ 255) ∧ 0 ≤ x.k ∧ x.k ≤ 4294967295 from by
    obtain ⟨h1, h2, h3, h4, h5, h6, h7, h8, h9, ha, hb, hc, hd, he, hf, hg, hh, hi, hj⟩ := h
    omega)
  have hd := h.dur W
  have h0 := advanceState_any x.t x.m x.r x.s x.k (descOf m x).dur S R w
  rw [ad_0 hA (may_iff.2 (by
    obtain ⟨h1, h2, h3, h4, h5, h6, h7, h8, h9, ha, hb, hc, hd, he, hf, hg, hh, hi, hj⟩ := h
    omega))] at h0
  rw [h.next]
  have e1 := h.xr
  have e2 := h.xs
  rw [e1, e2] at h0
  unfold ssVal
  rw [e1, e2]
  exact h0
set_option linter.unusedSimpArgs false in
set_option maxRecDepth 100000 in
set_option maxHeartbeats 4000000 in
theorem luNext_any {b : Nat} {v : Mv} {d : Int} {sv : Value} {x : Ss} {j R S r s : Nat} (w : World) (hl : LkAt w b v d 0 sv) (hr : RdMe w v) (hw : Well v.me) (hy : Lies v.me x j R S r s) :
    Calls Tryz.prog 72 #[.pointer (some ⟨b, 0, none⟩), ssVal x] w fun e w' => e = .returned (ssVal (nextOf v.me x)) ∧ Below w.heap.size w w' := by
  have HX := Lib.hid (NzL.start (x := x) hl hr)
  have hjc : j < v.cs.length := by have e : v.me.modes.length = v.cs.length := mds_len v.cs; have := hy.hj; omega
  have HMD := Lib.hid (fun W (hW : RdMe W v) => hW.rm.at hjc)
  have e1 := hy.hR
  have e2 := hy.hS
  rw [mdOf_me] at e1 e2
  have HDS := Lib.hid (fun W hl hW => descriptor_any (b := b) (d := d) (sv := sv) W hl hW hw hy)
  have HAD := Lib.hid (hy.advance hw)
  have he := hy.hm
  generalize nextOf v.me x = y at HAD ⊢
  generalize descOf v.me x = D at HDS HAD
  generalize mcOf v.cs j = c at e1 e2 HMD
  rw [← e1, ← e2] at HAD
  clear e1 e2 hl hr hw hy
  obtain ⟨t, m, r0, s0, k⟩ := x
  dsimp only at he
  subst he
  unfold ssVal at HDS HAD ⊢
  unfold dsVal at HDS
  dsimp only at HDS HAD
  go_enter Tryz.func72, Tryz.ntmps72
  go_upto_region 1 with fail
  dsimp only at HX
  generalize (w.alloc (.cells #[.int .i64 t, .int .i64 (j : Int), .int .i64 r0, .int .i64 s0, .int .i64 k] 30)).alloc (.cells #[.int .i64 0, .int .i64 0, .int .i64 0, .int .i64 0, .int .i64 0] 30) = w1 at HX ⊢
  obtain ⟨g, off, e0, hg, hx, -⟩ := HMD.out _ HX.out.ls.rd
  have HX2 := HX
  clear HX
  go_upto_region 1 with fail
  have HXd := Lib.hid HX2.out.drew
  have HMX := Lib.hid (hx.below (Below.drew (Below.refl _ _)) hx.lt)
  have hq := (show _ from (⟨HXd.out.st.all.2.1, by have h := HXd.out.lk.c2; rwa [e0] at h, HMX.out.c0, HMX.out.c1, HMX.out.c2⟩ : w1.drew.cell? ⟨w.heap.size, 1, none⟩ = some (.int .i64 (j : Int)) ∧ w1.drew.cell? ⟨b, 2, none⟩ = some (.slice (some ⟨g, off, none⟩) v.cs.length v.mc) ∧ w1.drew.cell? ⟨g, off + j * 3, none⟩ = some (.int .i64 c.md.rounds) ∧ w1.drew.cell? ⟨g, off + j * 3 + 1, none⟩ = some (.int .i64 c.md.slots) ∧ w1.drew.cell? ⟨g, off + j * 3 + 2, none⟩ = some (.slice c.ao c.md.next.length c.cap)))
  clear hx
  refine wp_region_held_drew (S := fun w' => w'.cell? ⟨w.heap.size, 1, none⟩ = some (.int .i64 (j : Int)) ∧ w'.cell? ⟨b, 2, none⟩ = some (.slice (some ⟨g, off, none⟩) v.cs.length v.mc) ∧ w'.cell? ⟨g, off + j * 3, none⟩ = some (.int .i64 c.md.rounds) ∧ w'.cell? ⟨g, off + j * 3 + 1, none⟩ = some (.int .i64 c.md.slots) ∧ w'.cell? ⟨g, off + j * 3 + 2, none⟩ = some (.slice c.ao c.md.next.length c.cap)) (by kernel_rfl) (hq) (fun hHeld => ?_)
  generalize w1.drew = wd at HXd HMX hq hHeld ⊢
  refine tk (i := 0) (v := ?_) rfl (Or.inl ⟨by rfl, ?_⟩) (by assumption) ?_
  rotate_left
  · (intro w hSw; (try dsimp only at hSw); go_simp; (try with_reducible rfl))
  try simp only [pa, pb, pc, Act.put, pe, pf, pg]
  refine tk (i := 1) (v := ?_) rfl (Or.inl ⟨by rfl, ?_⟩) (by assumption) ?_
  rotate_left
  · (intro w hSw; (try dsimp only at hSw); go_simp; (try with_reducible rfl))
  try simp only [pa, pb, pc, Act.put, pe, pf, pg]
  refine tk (i := 2) (v := ?_) rfl (Or.inl ⟨by rfl, ?_⟩) (by assumption) ?_
  rotate_left
  · (intro w hSw; (try dsimp only at hSw); go_simp; (try with_reducible rfl))
  try simp only [pa, pb, pc, Act.put, pe, pf, pg]
  refine tk (i := 3) (v := ?_) rfl (Or.inl ⟨by rfl, ?_⟩) (by assumption) ?_
  rotate_left
  · (intro w hSw; (try dsimp only at hSw); go_simp; (try with_reducible rfl))
  try simp only [pa, pb, pc, Act.put, pe, pf, pg]
  refine tk (i := 4) (v := ?_) rfl (Or.inl ⟨by rfl, ?_⟩) (by assumption) ?_
  rotate_left
  · (intro w hSw; (try dsimp only at hSw); go_simp; (try with_reducible rfl))
  try simp only [pa, pb, pc, Act.put, pe, pf, pg]
  refine tk (i := 5) (v := ?_) rfl (Or.inl ⟨by rfl, ?_⟩) (by assumption) ?_
  rotate_left
  · (intro w hSw; (try dsimp only at hSw); go_simp; (try with_reducible rfl))
  try simp only [pa, pb, pc, Act.put, pe, pf, pg]
  refine tk (i := 6) (v := ?_) rfl (Or.inl ⟨by rfl, ?_⟩) (by assumption) ?_
  rotate_left
  · (intro w hSw; (try dsimp only at hSw); go_simp; (try with_reducible rfl))
  try simp only [pa, pb, pc, Act.put, pe, pf, pg]
  refine tk (i := 7) (v := ?_) rfl (Or.inl ⟨by rfl, ?_⟩) (by assumption) ?_
  rotate_left
  · (intro w hSw; (try dsimp only at hSw); go_simp; (try with_reducible rfl))
  try simp only [pa, pb, pc, Act.put, pe, pf, pg]
  refine tk (i := 8) (v := ?_) rfl (Or.inl ⟨by rfl, ?_⟩) (by assumption) ?_
  rotate_left
  · (intro w hSw; (try dsimp only at hSw); go_simp; (try with_reducible rfl))
  try simp only [pa, pb, pc, Act.put, pe, pf, pg]
  have bZ := (Below.refl wd.heap.size wd).alloc (Nat.le_refl _) (.cells #[.int .i64 0, .int .i64 0, .slice none 0 0] 99)
  have HXA := Lib.hid (HXd.out.call bZ)
  have HMA := Lib.hid (HMX.out.below bZ HMX.out.lt)
  have hqA := (show _ from (⟨HXA.out.st.all.2.1, by have h := HXA.out.lk.c2; rwa [e0] at h, HMA.out.c0, HMA.out.c1, HMA.out.c2⟩ : (wd.alloc (.cells #[.int .i64 0, .int .i64 0, .slice none 0 0] 99)).cell? ⟨w.heap.size, 1, none⟩ = some (.int .i64 (j : Int)) ∧ (wd.alloc (.cells #[.int .i64 0, .int .i64 0, .slice none 0 0] 99)).cell? ⟨b, 2, none⟩ = some (.slice (some ⟨g, off, none⟩) v.cs.length v.mc) ∧ (wd.alloc (.cells #[.int .i64 0, .int .i64 0, .slice none 0 0] 99)).cell? ⟨g, off + j * 3, none⟩ = some (.int .i64 c.md.rounds) ∧ (wd.alloc (.cells #[.int .i64 0, .int .i64 0, .slice none 0 0] 99)).cell? ⟨g, off + j * 3 + 1, none⟩ = some (.int .i64 c.md.slots) ∧ (wd.alloc (.cells #[.int .i64 0, .int .i64 0, .slice none 0 0] 99)).cell? ⟨g, off + j * 3 + 2, none⟩ = some (.slice c.ao c.md.next.length c.cap)))
  refine wpAnyH_ready (rs := [9]) (by kernel_rfl) (by simp) (AllReadyH.cons rfl (fun K hK => ?_) AllReadyH.nil)
  go_simp
  refine hK.out _ _ ?_ (fun hHeld => ?_)
  · exact hqA
  clear hK K
  try simp only [pa, pb, pc, Act.put, pe, pf, pg]
  have bS := (Below.refl wd.heap.size wd).alloc (Nat.le_refl _) (.cells #[.int .i64 c.md.rounds, .int .i64 c.md.slots, .slice c.ao c.md.next.length c.cap] 99)
  have HXB := Lib.hid (HXd.out.call bS)
  have HMB := Lib.hid (HMX.out.below bS HMX.out.lt)
  have MC := Lib.hid (McAt.new (T := 99) (c := c) wd)
  have hqB := (show _ from (⟨HXB.out.st.all.2.1, by have h := HXB.out.lk.c2; rwa [e0] at h, HMB.out.c0, HMB.out.c1, HMB.out.c2⟩ : (wd.alloc (.cells #[.int .i64 c.md.rounds, .int .i64 c.md.slots, .slice c.ao c.md.next.length c.cap] 99)).cell? ⟨w.heap.size, 1, none⟩ = some (.int .i64 (j : Int)) ∧ (wd.alloc (.cells #[.int .i64 c.md.rounds, .int .i64 c.md.slots, .slice c.ao c.md.next.length c.cap] 99)).cell? ⟨b, 2, none⟩ = some (.slice (some ⟨g, off, none⟩) v.cs.length v.mc) ∧ (wd.alloc (.cells #[.int .i64 c.md.rounds, .int .i64 c.md.slots, .slice c.ao c.md.next.length c.cap] 99)).cell? ⟨g, off + j * 3, none⟩ = some (.int .i64 c.md.rounds) ∧ (wd.alloc (.cells #[.int .i64 c.md.rounds, .int .i64 c.md.slots, .slice c.ao c.md.next.length c.cap] 99)).cell? ⟨g, off + j * 3 + 1, none⟩ = some (.int .i64 c.md.slots) ∧ (wd.alloc (.cells #[.int .i64 c.md.rounds, .int .i64 c.md.slots, .slice c.ao c.md.next.length c.cap] 99)).cell? ⟨g, off + j * 3 + 2, none⟩ = some (.slice c.ao c.md.next.length c.cap)))
  refine wpAnyH_ready (rs := [10]) (by kernel_rfl) (by simp) (AllReadyH.cons rfl (fun K hK => ?_) AllReadyH.nil)
  go_simp
  refine hK.out _ _ ?_ (fun hHeld => ?_)
  · exact hqB
  clear hK K
  try simp only [pa, pb, pc, Act.put, pe, pf, pg]
  refine wpAnyH_done (by kernel_rfl) ?_ _
  clear hq hqA hqB HXA HMA HXd HMX HMB bZ bS
  obtain ⟨M, hM⟩ : ∃ M, M = wd.heap.size := ⟨_, rfl⟩
  rw [← hM] at MC ⊢
  clear hM
  generalize wd.alloc (.cells #[.int .i64 c.md.rounds, .int .i64 c.md.slots, .slice c.ao c.md.next.length c.cap] 99) = w5 at HXB MC hHeld ⊢
  clear hHeld
  go_upto_region 2 with fail
  have HX1 := Lib.hid HXB.out.drew
  have M1 := Lib.hid (MC.out.below (Below.drew (Below.refl _ _)) MC.out.lt)
  have hq := (show _ from (⟨HX1.out.st.all.1, HX1.out.st.all.2.1, HX1.out.st.all.2.2.1, HX1.out.st.all.2.2.2.1, HX1.out.st.all.2.2.2.2, M1.out.in_.c0, M1.out.in_.c1⟩ : w5.drew.cell? ⟨w.heap.size, 0, none⟩ = some (.int .i64 t) ∧ w5.drew.cell? ⟨w.heap.size, 1, none⟩ = some (.int .i64 (j : Int)) ∧ w5.drew.cell? ⟨w.heap.size, 2, none⟩ = some (.int .i64 r0) ∧ w5.drew.cell? ⟨w.heap.size, 3, none⟩ = some (.int .i64 s0) ∧ w5.drew.cell? ⟨w.heap.size, 4, none⟩ = some (.int .i64 k) ∧ w5.drew.cell? ⟨M, 0, none⟩ = some (.int .i64 c.md.rounds) ∧ w5.drew.cell? ⟨M, 1, none⟩ = some (.int .i64 c.md.slots)))
  clear HXB MC
  refine wp_region_held_drew (S := fun w' => w'.cell? ⟨w.heap.size, 0, none⟩ = some (.int .i64 t) ∧ w'.cell? ⟨w.heap.size, 1, none⟩ = some (.int .i64 (j : Int)) ∧ w'.cell? ⟨w.heap.size, 2, none⟩ = some (.int .i64 r0) ∧ w'.cell? ⟨w.heap.size, 3, none⟩ = some (.int .i64 s0) ∧ w'.cell? ⟨w.heap.size, 4, none⟩ = some (.int .i64 k) ∧ w'.cell? ⟨M, 0, none⟩ = some (.int .i64 c.md.rounds) ∧ w'.cell? ⟨M, 1, none⟩ = some (.int .i64 c.md.slots)) (by kernel_rfl) (hq) (fun hHeld => ?_)
  generalize w5.drew = y1 at HX1 M1 hq hHeld ⊢
  refine tk (i := 0) (v := ?_) rfl (Or.inl ⟨by rfl, ?_⟩) (by assumption) ?_
  rotate_left
  · (intro w hSw; (try dsimp only at hSw); go_simp; (try with_reducible rfl))
  try simp only [pa, pb, pc, Act.put, pe, pf, pg]
  refine tk (i := 1) (v := ?_) rfl (Or.inl ⟨by rfl, ?_⟩) (by assumption) ?_
  rotate_left
  · (intro w hSw; (try dsimp only at hSw); go_simp; (try with_reducible rfl))
  try simp only [pa, pb, pc, Act.put, pe, pf, pg]
  refine tk (i := 2) (v := ?_) rfl (Or.inl ⟨by rfl, ?_⟩) (by assumption) ?_
  rotate_left
  · (intro w hSw; (try dsimp only at hSw); go_simp; (try with_reducible rfl))
  try simp only [pa, pb, pc, Act.put, pe, pf, pg]
  refine tk (i := 5) (v := ?_) rfl (Or.inl ⟨by rfl, ?_⟩) (by assumption) ?_
  rotate_left
  · (intro w hSw; (try dsimp only at hSw); go_simp; (try with_reducible rfl))
  try simp only [pa, pb, pc, Act.put, pe, pf, pg]
  refine tk (i := 6) (v := ?_) rfl (Or.inl ⟨by rfl, ?_⟩) (by assumption) ?_
  rotate_left
  · (intro w hSw; (try dsimp only at hSw); go_simp; (try with_reducible rfl))
  try simp only [pa, pb, pc, Act.put, pe, pf, pg]
  refine tk (i := 7) (v := ?_) rfl (Or.inl ⟨by rfl, ?_⟩) (by assumption) ?_
  rotate_left
  · (intro w hSw; (try dsimp only at hSw); go_simp; (try with_reducible rfl))
  try simp only [pa, pb, pc, Act.put, pe, pf, pg]
  refine tk (i := 8) (v := ?_) rfl (Or.inl ⟨by rfl, ?_⟩) (by assumption) ?_
  rotate_left
  · (intro w hSw; (try dsimp only at hSw); go_simp; (try with_reducible rfl))
  try simp only [pa, pb, pc, Act.put, pe, pf, pg]
  refine wpAnyH_ready (rs := [3, 13]) (by kernel_rfl) (by simp) (AllReadyH.cons rfl (fun K hK => ?_) (AllReadyH.cons rfl (fun K hK => ?_) (AllReadyH.nil)))
  · go_simp
    refine (HDS.out _ HX1.out.lk HX1.out.ls.rd).mono ?_
    rintro e y2 ⟨rfl, b2⟩
    have HX2 := Lib.hid (HX1.out.call b2)
    have M2 := Lib.hid (M1.out.below b2 M1.out.lt)
    clear b2 hq HX1 M1
    have hq := (show _ from (⟨HX2.out.st.all.1, HX2.out.st.all.2.1, HX2.out.st.all.2.2.1, HX2.out.st.all.2.2.2.1, HX2.out.st.all.2.2.2.2, M2.out.in_.c0, M2.out.in_.c1⟩ : y2.cell? ⟨w.heap.size, 0, none⟩ = some (.int .i64 t) ∧ y2.cell? ⟨w.heap.size, 1, none⟩ = some (.int .i64 (j : Int)) ∧ y2.cell? ⟨w.heap.size, 2, none⟩ = some (.int .i64 r0) ∧ y2.cell? ⟨w.heap.size, 3, none⟩ = some (.int .i64 s0) ∧ y2.cell? ⟨w.heap.size, 4, none⟩ = some (.int .i64 k) ∧ y2.cell? ⟨M, 0, none⟩ = some (.int .i64 c.md.rounds) ∧ y2.cell? ⟨M, 1, none⟩ = some (.int .i64 c.md.slots)))
    go_wp2_with fail
    refine hK.out _ _ ?_ (fun hHeld => ?_)
    · exact hq
    clear hK K
    try simp only [pa, pb, pc, Act.put, pe, pf, pg]
    refine tk (i := 4) (v := .int .i64 D.dur) rfl (Or.inl ⟨by rfl, fun w hSw => by rfl⟩) (by assumption) ?_
    try simp only [pa, pb, pc, Act.put, pe, pf, pg]
    refine wpAnyH_ready (rs := [9, 13]) (by kernel_rfl) (by simp) (AllReadyH.cons rfl (fun K hK => ?_) (AllReadyH.cons rfl (fun K hK => ?_) (AllReadyH.nil)))
    · go_simp
      refine (HAD.out _).mono ?_
      rintro e y3 ⟨rfl, b3⟩
      have HX3 := Lib.hid (HX2.out.call b3)
      have M3 := Lib.hid (M2.out.below b3 M2.out.lt)
      clear b3 hq HX2 M2
      have hq := (show _ from (⟨HX3.out.st.all.1, HX3.out.st.all.2.1, HX3.out.st.all.2.2.1, HX3.out.st.all.2.2.2.1, HX3.out.st.all.2.2.2.2, M3.out.in_.c0, M3.out.in_.c1⟩ : y3.cell? ⟨w.heap.size, 0, none⟩ = some (.int .i64 t) ∧ y3.cell? ⟨w.heap.size, 1, none⟩ = some (.int .i64 (j : Int)) ∧ y3.cell? ⟨w.heap.size, 2, none⟩ = some (.int .i64 r0) ∧ y3.cell? ⟨w.heap.size, 3, none⟩ = some (.int .i64 s0) ∧ y3.cell? ⟨w.heap.size, 4, none⟩ = some (.int .i64 k) ∧ y3.cell? ⟨M, 0, none⟩ = some (.int .i64 c.md.rounds) ∧ y3.cell? ⟨M, 1, none⟩ = some (.int .i64 c.md.slots)))
      go_wp2_with fail
      refine hK.out _ _ ?_ (fun hHeld => ?_)
      · exact hq
      clear hK K
      try simp only [pa, pb, pc, Act.put, pe, pf, pg]
      refine tk (i := 10) (v := ?_) rfl (Or.inl ⟨by rfl, ?_⟩) (by assumption) ?_
      rotate_left
      · (intro w hSw; (try dsimp only at hSw); go_simp; (try with_reducible rfl))
      try simp only [pa, pb, pc, Act.put, pe, pf, pg]
      refine tk (i := 11) (v := ?_) rfl (Or.inl ⟨by rfl, ?_⟩) (by assumption) ?_
      rotate_left
      · (intro w hSw; (try dsimp only at hSw); go_simp; (try with_reducible rfl))
      try simp only [pa, pb, pc, Act.put, pe, pf, pg]
      refine tk (i := 12) (v := ?_) rfl (Or.inl ⟨by rfl, ?_⟩) (by assumption) ?_
      rotate_left
      · (intro w hSw; (try dsimp only at hSw); go_simp; (try with_reducible rfl))
      try simp only [pa, pb, pc, Act.put, pe, pf, pg]
      have bZ := (Below.refl y3.heap.size y3).alloc (Nat.le_refl _) (.cells #[.int .i64 0, .int .i64 0, .int .i64 0, .int .i64 0, .int .i64 0] 30)
      have HXA := Lib.hid (HX3.out.call bZ)
      have MA := Lib.hid (M3.out.below bZ M3.out.lt)
      have hqA := (show _ from (⟨HXA.out.st.all.1, HXA.out.st.all.2.1, HXA.out.st.all.2.2.1, HXA.out.st.all.2.2.2.1, HXA.out.st.all.2.2.2.2, MA.out.in_.c0, MA.out.in_.c1⟩ : (y3.alloc (.cells #[.int .i64 0, .int .i64 0, .int .i64 0, .int .i64 0, .int .i64 0] 30)).cell? ⟨w.heap.size, 0, none⟩ = some (.int .i64 t) ∧ (y3.alloc (.cells #[.int .i64 0, .int .i64 0, .int .i64 0, .int .i64 0, .int .i64 0] 30)).cell? ⟨w.heap.size, 1, none⟩ = some (.int .i64 (j : Int)) ∧ (y3.alloc (.cells #[.int .i64 0, .int .i64 0, .int .i64 0, .int .i64 0, .int .i64 0] 30)).cell? ⟨w.heap.size, 2, none⟩ = some (.int .i64 r0) ∧ (y3.alloc (.cells #[.int .i64 0, .int .i64 0, .int .i64 0, .int .i64 0, .int .i64 0] 30)).cell? ⟨w.heap.size, 3, none⟩ = some (.int .i64 s0) ∧ (y3.alloc (.cells #[.int .i64 0, .int .i64 0, .int .i64 0, .int .i64 0, .int .i64 0] 30)).cell? ⟨w.heap.size, 4, none⟩ = some (.int .i64 k) ∧ (y3.alloc (.cells #[.int .i64 0, .int .i64 0, .int .i64 0, .int .i64 0, .int .i64 0] 30)).cell? ⟨M, 0, none⟩ = some (.int .i64 c.md.rounds) ∧ (y3.alloc (.cells #[.int .i64 0, .int .i64 0, .int .i64 0, .int .i64 0, .int .i64 0] 30)).cell? ⟨M, 1, none⟩ = some (.int .i64 c.md.slots)))
      refine wpAnyH_ready (rs := [13]) (by kernel_rfl) (by simp) (AllReadyH.cons rfl (fun K hK => ?_) AllReadyH.nil)
      go_simp
      refine hK.out _ _ ?_ (fun hHeld => ?_)
      · exact hqA
      clear hK K
      try simp only [pa, pb, pc, Act.put, pe, pf, pg]
      have bS := (Below.refl y3.heap.size y3).alloc (Nat.le_refl _) (.cells #[.int .i64 y.t, .int .i64 y.m, .int .i64 y.r, .int .i64 y.s, .int .i64 y.k] 30)
      have HX9 := Lib.hid (HX3.out.call bS)
      have M9 := Lib.hid (M3.out.below bS M3.out.lt)
      have TY := Lib.hid (StateAt.new (T := 30) (t := y.t) (m := y.m) (r := y.r) (s := y.s) (k := y.k) y3)
      have hqB := (show _ from (⟨HX9.out.st.all.1, HX9.out.st.all.2.1, HX9.out.st.all.2.2.1, HX9.out.st.all.2.2.2.1, HX9.out.st.all.2.2.2.2, M9.out.in_.c0, M9.out.in_.c1⟩ : (y3.alloc (.cells #[.int .i64 y.t, .int .i64 y.m, .int .i64 y.r, .int .i64 y.s, .int .i64 y.k] 30)).cell? ⟨w.heap.size, 0, none⟩ = some (.int .i64 t) ∧ (y3.alloc (.cells #[.int .i64 y.t, .int .i64 y.m, .int .i64 y.r, .int .i64 y.s, .int .i64 y.k] 30)).cell? ⟨w.heap.size, 1, none⟩ = some (.int .i64 (j : Int)) ∧ (y3.alloc (.cells #[.int .i64 y.t, .int .i64 y.m, .int .i64 y.r, .int .i64 y.s, .int .i64 y.k] 30)).cell? ⟨w.heap.size, 2, none⟩ = some (.int .i64 r0) ∧ (y3.alloc (.cells #[.int .i64 y.t, .int .i64 y.m, .int .i64 y.r, .int .i64 y.s, .int .i64 y.k] 30)).cell? ⟨w.heap.size, 3, none⟩ = some (.int .i64 s0) ∧ (y3.alloc (.cells #[.int .i64 y.t, .int .i64 y.m, .int .i64 y.r, .int .i64 y.s, .int .i64 y.k] 30)).cell? ⟨w.heap.size, 4, none⟩ = some (.int .i64 k) ∧ (y3.alloc (.cells #[.int .i64 y.t, .int .i64 y.m, .int .i64 y.r, .int .i64 y.s, .int .i64 y.k] 30)).cell? ⟨M, 0, none⟩ = some (.int .i64 c.md.rounds) ∧ (y3.alloc (.cells #[.int .i64 y.t, .int .i64 y.m, .int .i64 y.r, .int .i64 y.s, .int .i64 y.k] 30)).cell? ⟨M, 1, none⟩ = some (.int .i64 c.md.slots)))
      refine wpAnyH_ready (rs := [14]) (by kernel_rfl) (by simp) (AllReadyH.cons rfl (fun K hK => ?_) AllReadyH.nil)
      go_simp
      refine hK.out _ _ ?_ (fun hHeld => ?_)
      · exact hqB
      clear hK K
      try simp only [pa, pb, pc, Act.put, pe, pf, pg]
      refine tk (i := 15) (v := ?_) rfl (Or.inl ⟨by rfl, ?_⟩) (by assumption) ?_
      rotate_left
      · (intro w hSw; (try dsimp only at hSw); go_simp; (try with_reducible rfl))
      try simp only [pa, pb, pc, Act.put, pe, pf, pg]
      refine wpAnyH_done (by kernel_rfl) ?_ _
      clear hq hqA hqB HXA MA HX3 M3 bZ bS hHeld
      obtain ⟨Y, hY⟩ : ∃ Y, Y = y3.heap.size := ⟨_, rfl⟩
      rw [← hY] at TY ⊢
      clear hY
      generalize y3.alloc (.cells #[.int .i64 y.t, .int .i64 y.m, .int .i64 y.r, .int .i64 y.s, .int .i64 y.k] 30) = w7 at HX9 M9 TY ⊢
      have t0 := TY.out.c0; have t1 := TY.out.c1; have t2 := TY.out.c2; have t3 := TY.out.c3; have t4 := TY.out.c4
      have g0 := HX9.out.res.c0; have g1 := HX9.out.res.c1; have g2 := HX9.out.res.c2; have g3 := HX9.out.res.c3; have g4 := HX9.out.res.c4
      have f0 := HX9.out.res.f 0; have f1 := HX9.out.res.f 1; have f2 := HX9.out.res.f 2; have f3 := HX9.out.res.f 3; have f4 := HX9.out.res.f 4
      go_wp2_with fail
      clear t0 t1 t2 t3 t4 g0 g1 g2 g3 g4 f0 f1 f2 f3 f4
      change bodyPost _ _ _ _ _ (setFive w7 (w.heap.size + 1) y.t y.m y.r y.s y.k)
      have SF := StateAt.five HX9.out.res y.t y.m y.r y.s y.k
      have BF := HX9.out.ls.below.trans (below_five (B := w.heap.size) (w := w7) (b := w.heap.size + 1) (by omega) y.t y.m y.r y.s y.k)
      generalize setFive w7 (w.heap.size + 1) y.t y.m y.r y.s y.k = wz at SF BF ⊢
      have e0 := SF.c0; have e1 := SF.c1; have e2 := SF.c2; have e3 := SF.c3; have e4 := SF.c4
      exact bodyPost_ret (v := ssVal y) (by simp [ssVal, results, Tryz.results72, go_sem, e0, e1, e2, e3, e4]) rfl ⟨rfl, BF⟩
    · have bZ := (Below.refl y2.heap.size y2).alloc (Nat.le_refl _) (.cells #[.int .i64 0, .int .i64 0, .int .i64 0, .int .i64 0, .int .i64 0] 30)
      have HX3 := Lib.hid (HX2.out.call bZ)
      have M3 := Lib.hid (M2.out.below bZ M2.out.lt)
      have TZ3 := Lib.hid (StateAt.new (T := 30) (t := 0) (m := 0) (r := 0) (s := 0) (k := 0) y2)
      have HY := Lib.hid (show w.heap.size + 1 < y2.heap.size from StateAt.lt HX2.out.res)
      have HYM := Lib.hid (M2.out.lt)
      have hqA := (show _ from (⟨HX3.out.st.all.1, HX3.out.st.all.2.1, HX3.out.st.all.2.2.1, HX3.out.st.all.2.2.2.1, HX3.out.st.all.2.2.2.2, M3.out.in_.c0, M3.out.in_.c1⟩ : (y2.alloc (.cells #[.int .i64 0, .int .i64 0, .int .i64 0, .int .i64 0, .int .i64 0] 30)).cell? ⟨w.heap.size, 0, none⟩ = some (.int .i64 t) ∧ (y2.alloc (.cells #[.int .i64 0, .int .i64 0, .int .i64 0, .int .i64 0, .int .i64 0] 30)).cell? ⟨w.heap.size, 1, none⟩ = some (.int .i64 (j : Int)) ∧ (y2.alloc (.cells #[.int .i64 0, .int .i64 0, .int .i64 0, .int .i64 0, .int .i64 0] 30)).cell? ⟨w.heap.size, 2, none⟩ = some (.int .i64 r0) ∧ (y2.alloc (.cells #[.int .i64 0, .int .i64 0, .int .i64 0, .int .i64 0, .int .i64 0] 30)).cell? ⟨w.heap.size, 3, none⟩ = some (.int .i64 s0) ∧ (y2.alloc (.cells #[.int .i64 0, .int .i64 0, .int .i64 0, .int .i64 0, .int .i64 0] 30)).cell? ⟨w.heap.size, 4, none⟩ = some (.int .i64 k) ∧ (y2.alloc (.cells #[.int .i64 0, .int .i64 0, .int .i64 0, .int .i64 0, .int .i64 0] 30)).cell? ⟨M, 0, none⟩ = some (.int .i64 c.md.rounds) ∧ (y2.alloc (.cells #[.int .i64 0, .int .i64 0, .int .i64 0, .int .i64 0, .int .i64 0] 30)).cell? ⟨M, 1, none⟩ = some (.int .i64 c.md.slots)))
      go_simp
      refine hK.out _ _ ?_ (fun hHeld => ?_)
      · exact hqA
      clear hK K hq bZ HX2 M2
      obtain ⟨Y, hY⟩ : ∃ Y, Y = y2.heap.size := ⟨_, rfl⟩
      rw [← hY] at TZ3 HY HYM ⊢
      clear hY
      generalize y2.alloc (.cells #[.int .i64 0, .int .i64 0, .int .i64 0, .int .i64 0, .int .i64 0] 30) = y3 at HX3 M3 TZ3 hqA hHeld ⊢
      have hq := hqA
      clear hqA
      try simp only [pa, pb, pc, Act.put, pe, pf, pg]
      refine wpAnyH_ready (rs := [9]) (by kernel_rfl) (by simp) (AllReadyH.cons rfl (fun K hK => ?_) AllReadyH.nil)
      go_simp
      refine (HAD.out _).mono ?_
      rintro e y4 ⟨rfl, b4⟩
      have HX4 := Lib.hid (HX3.out.call b4)
      have M4 := Lib.hid (M3.out.below b4 M3.out.lt)
      have TZ4 := Lib.hid (StateAt.below TZ3.out b4 (StateAt.lt TZ3.out))
      clear b4 hq HX3 M3 TZ3
      have hq := (show _ from (⟨HX4.out.st.all.1, HX4.out.st.all.2.1, HX4.out.st.all.2.2.1, HX4.out.st.all.2.2.2.1, HX4.out.st.all.2.2.2.2, M4.out.in_.c0, M4.out.in_.c1⟩ : y4.cell? ⟨w.heap.size, 0, none⟩ = some (.int .i64 t) ∧ y4.cell? ⟨w.heap.size, 1, none⟩ = some (.int .i64 (j : Int)) ∧ y4.cell? ⟨w.heap.size, 2, none⟩ = some (.int .i64 r0) ∧ y4.cell? ⟨w.heap.size, 3, none⟩ = some (.int .i64 s0) ∧ y4.cell? ⟨w.heap.size, 4, none⟩ = some (.int .i64 k) ∧ y4.cell? ⟨M, 0, none⟩ = some (.int .i64 c.md.rounds) ∧ y4.cell? ⟨M, 1, none⟩ = some (.int .i64 c.md.slots)))
      go_wp2_with fail
      refine hK.out _ _ ?_ (fun hHeld => ?_)
      · exact hq
      clear hK K
      try simp only [pa, pb, pc, Act.put, pe, pf, pg]
      refine tk (i := 10) (v := ?_) rfl (Or.inl ⟨by rfl, ?_⟩) (by assumption) ?_
      rotate_left
      · (intro w hSw; (try dsimp only at hSw); go_simp; (try with_reducible rfl))
      try simp only [pa, pb, pc, Act.put, pe, pf, pg]
      refine tk (i := 11) (v := ?_) rfl (Or.inl ⟨by rfl, ?_⟩) (by assumption) ?_
      rotate_left
      · (intro w hSw; (try dsimp only at hSw); go_simp; (try with_reducible rfl))
      try simp only [pa, pb, pc, Act.put, pe, pf, pg]
      refine tk (i := 12) (v := ?_) rfl (Or.inl ⟨by rfl, ?_⟩) (by assumption) ?_
      rotate_left
      · (intro w hSw; (try dsimp only at hSw); go_simp; (try with_reducible rfl))
      try simp only [pa, pb, pc, Act.put, pe, pf, pg]
      have gF := grown_fiveL y4 Y y.t y.m y.r y.s y.k
      have HX9 := Lib.hid (HX4.out.other HY.out gF)
      have M9 := Lib.hid (M4.out.grown gF (fun e => by injection e with e; have := HYM.out; omega))
      have TY := Lib.hid (StateAt.five TZ4.out y.t y.m y.r y.s y.k)
      have hqB := (show _ from (⟨HX9.out.st.all.1, HX9.out.st.all.2.1, HX9.out.st.all.2.2.1, HX9.out.st.all.2.2.2.1, HX9.out.st.all.2.2.2.2, M9.out.in_.c0, M9.out.in_.c1⟩ : (((((y4.setCell ⟨Y, 0, none⟩ (.int .i64 y.t)).setCell ⟨Y, 1, none⟩ (.int .i64 y.m)).setCell ⟨Y, 2, none⟩ (.int .i64 y.r)).setCell ⟨Y, 3, none⟩ (.int .i64 y.s)).setCell ⟨Y, 4, none⟩ (.int .i64 y.k)).cell? ⟨w.heap.size, 0, none⟩ = some (.int .i64 t) ∧ (((((y4.setCell ⟨Y, 0, none⟩ (.int .i64 y.t)).setCell ⟨Y, 1, none⟩ (.int .i64 y.m)).setCell ⟨Y, 2, none⟩ (.int .i64 y.r)).setCell ⟨Y, 3, none⟩ (.int .i64 y.s)).setCell ⟨Y, 4, none⟩ (.int .i64 y.k)).cell? ⟨w.heap.size, 1, none⟩ = some (.int .i64 (j : Int)) ∧ (((((y4.setCell ⟨Y, 0, none⟩ (.int .i64 y.t)).setCell ⟨Y, 1, none⟩ (.int .i64 y.m)).setCell ⟨Y, 2, none⟩ (.int .i64 y.r)).setCell ⟨Y, 3, none⟩ (.int .i64 y.s)).setCell ⟨Y, 4, none⟩ (.int .i64 y.k)).cell? ⟨w.heap.size, 2, none⟩ = some (.int .i64 r0) ∧ (((((y4.setCell ⟨Y, 0, none⟩ (.int .i64 y.t)).setCell ⟨Y, 1, none⟩ (.int .i64 y.m)).setCell ⟨Y, 2, none⟩ (.int .i64 y.r)).setCell ⟨Y, 3, none⟩ (.int .i64 y.s)).setCell ⟨Y, 4, none⟩ (.int .i64 y.k)).cell? ⟨w.heap.size, 3, none⟩ = some (.int .i64 s0) ∧ (((((y4.setCell ⟨Y, 0, none⟩ (.int .i64 y.t)).setCell ⟨Y, 1, none⟩ (.int .i64 y.m)).setCell ⟨Y, 2, none⟩ (.int .i64 y.r)).setCell ⟨Y, 3, none⟩ (.int .i64 y.s)).setCell ⟨Y, 4, none⟩ (.int .i64 y.k)).cell? ⟨w.heap.size, 4, none⟩ = some (.int .i64 k) ∧ (((((y4.setCell ⟨Y, 0, none⟩ (.int .i64 y.t)).setCell ⟨Y, 1, none⟩ (.int .i64 y.m)).setCell ⟨Y, 2, none⟩ (.int .i64 y.r)).setCell ⟨Y, 3, none⟩ (.int .i64 y.s)).setCell ⟨Y, 4, none⟩ (.int .i64 y.k)).cell? ⟨M, 0, none⟩ = some (.int .i64 c.md.rounds) ∧ (((((y4.setCell ⟨Y, 0, none⟩ (.int .i64 y.t)).setCell ⟨Y, 1, none⟩ (.int .i64 y.m)).setCell ⟨Y, 2, none⟩ (.int .i64 y.r)).setCell ⟨Y, 3, none⟩ (.int .i64 y.s)).setCell ⟨Y, 4, none⟩ (.int .i64 y.k)).cell? ⟨M, 1, none⟩ = some (.int .i64 c.md.slots)))
      have z0 := TZ4.out.c0; have z1 := TZ4.out.c1; have z2 := TZ4.out.c2; have z3 := TZ4.out.c3; have z4 := TZ4.out.c4
      have k0 := TZ4.out.f 0; have k1 := TZ4.out.f 1; have k2 := TZ4.out.f 2; have k3 := TZ4.out.f 3; have k4 := TZ4.out.f 4
      refine wpAnyH_ready (rs := [14]) (by kernel_rfl) (by simp) (AllReadyH.cons rfl (fun K hK => ?_) AllReadyH.nil)
      go_simp
      refine hK.out _ _ ?_ (fun hHeld => ?_)
      · exact hqB
      clear hK K z0 z1 z2 z3 z4 k0 k1 k2 k3 k4 hq gF
      try simp only [pa, pb, pc, Act.put, pe, pf, pg]
      refine tk (i := 15) (v := ?_) rfl (Or.inl ⟨by rfl, ?_⟩) (by assumption) ?_
      rotate_left
      · (intro w hSw; (try dsimp only at hSw); go_simp; (try with_reducible rfl))
      try simp only [pa, pb, pc, Act.put, pe, pf, pg]
      refine wpAnyH_done (by kernel_rfl) ?_ _
      clear hHeld hqB
      rw [show (((((y4.setCell ⟨Y, 0, none⟩ (.int .i64 y.t)).setCell ⟨Y, 1, none⟩ (.int .i64 y.m)).setCell ⟨Y, 2, none⟩ (.int .i64 y.r)).setCell ⟨Y, 3, none⟩ (.int .i64 y.s)).setCell ⟨Y, 4, none⟩ (.int .i64 y.k)) = (setFive y4 Y y.t y.m y.r y.s y.k) from rfl]
      generalize (setFive y4 Y y.t y.m y.r y.s y.k) = w7 at HX9 M9 TY ⊢
      have t0 := TY.out.c0; have t1 := TY.out.c1; have t2 := TY.out.c2; have t3 := TY.out.c3; have t4 := TY.out.c4
      have g0 := HX9.out.res.c0; have g1 := HX9.out.res.c1; have g2 := HX9.out.res.c2; have g3 := HX9.out.res.c3; have g4 := HX9.out.res.c4
      have f0 := HX9.out.res.f 0; have f1 := HX9.out.res.f 1; have f2 := HX9.out.res.f 2; have f3 := HX9.out.res.f 3; have f4 := HX9.out.res.f 4
      go_wp2_with fail
      clear t0 t1 t2 t3 t4 g0 g1 g2 g3 g4 f0 f1 f2 f3 f4
      change bodyPost _ _ _ _ _ (setFive w7 (w.heap.size + 1) y.t y.m y.r y.s y.k)
      have SF := StateAt.five HX9.out.res y.t y.m y.r y.s y.k
      have BF := HX9.out.ls.below.trans (below_five (B := w.heap.size) (w := w7) (b := w.heap.size + 1) (by omega) y.t y.m y.r y.s y.k)
      generalize setFive w7 (w.heap.size + 1) y.t y.m y.r y.s y.k = wz at SF BF ⊢
      have e0 := SF.c0; have e1 := SF.c1; have e2 := SF.c2; have e3 := SF.c3; have e4 := SF.c4
      exact bodyPost_ret (v := ssVal y) (by simp [ssVal, results, Tryz.results72, go_sem, e0, e1, e2, e3, e4]) rfl ⟨rfl, BF⟩
  · have bZ := (Below.refl y1.heap.size y1).alloc (Nat.le_refl _) (.cells #[.int .i64 0, .int .i64 0, .int .i64 0, .int .i64 0, .int .i64 0] 30)
    have HX2 := Lib.hid (HX1.out.call bZ)
    have M2 := Lib.hid (M1.out.below bZ M1.out.lt)
    have TZ2 := Lib.hid (StateAt.new (T := 30) (t := 0) (m := 0) (r := 0) (s := 0) (k := 0) y1)
    have HY := Lib.hid (show w.heap.size + 1 < y1.heap.size from StateAt.lt HX1.out.res)
    have HYM := Lib.hid (M1.out.lt)
    have hqA := (show _ from (⟨HX2.out.st.all.1, HX2.out.st.all.2.1, HX2.out.st.all.2.2.1, HX2.out.st.all.2.2.2.1, HX2.out.st.all.2.2.2.2, M2.out.in_.c0, M2.out.in_.c1⟩ : (y1.alloc (.cells #[.int .i64 0, .int .i64 0, .int .i64 0, .int .i64 0, .int .i64 0] 30)).cell? ⟨w.heap.size, 0, none⟩ = some (.int .i64 t) ∧ (y1.alloc (.cells #[.int .i64 0, .int .i64 0, .int .i64 0, .int .i64 0, .int .i64 0] 30)).cell? ⟨w.heap.size, 1, none⟩ = some (.int .i64 (j : Int)) ∧ (y1.alloc (.cells #[.int .i64 0, .int .i64 0, .int .i64 0, .int .i64 0, .int .i64 0] 30)).cell? ⟨w.heap.size, 2, none⟩ = some (.int .i64 r0) ∧ (y1.alloc (.cells #[.int .i64 0, .int .i64 0, .int .i64 0, .int .i64 0, .int .i64 0] 30)).cell? ⟨w.heap.size, 3, none⟩ = some (.int .i64 s0) ∧ (y1.alloc (.cells #[.int .i64 0, .int .i64 0, .int .i64 0, .int .i64 0, .int .i64 0] 30)).cell? ⟨w.heap.size, 4, none⟩ = some (.int .i64 k) ∧ (y1.alloc (.cells #[.int .i64 0, .int .i64 0, .int .i64 0, .int .i64 0, .int .i64 0] 30)).cell? ⟨M, 0, none⟩ = some (.int .i64 c.md.rounds) ∧ (y1.alloc (.cells #[.int .i64 0, .int .i64 0, .int .i64 0, .int .i64 0, .int .i64 0] 30)).cell? ⟨M, 1, none⟩ = some (.int .i64 c.md.slots)))
    go_simp
    refine hK.out _ _ ?_ (fun hHeld => ?_)
    · exact hqA
    clear hK K hq bZ HX1 M1
    obtain ⟨Y, hY⟩ : ∃ Y, Y = y1.heap.size := ⟨_, rfl⟩
    rw [← hY] at TZ2 HY HYM ⊢
    clear hY
    generalize y1.alloc (.cells #[.int .i64 0, .int .i64 0, .int .i64 0, .int .i64 0, .int .i64 0] 30) = y2 at HX2 M2 TZ2 hqA hHeld ⊢
    have hq := hqA
    clear hqA
    try simp only [pa, pb, pc, Act.put, pe, pf, pg]
    refine wpAnyH_ready (rs := [3]) (by kernel_rfl) (by simp) (AllReadyH.cons rfl (fun K hK => ?_) AllReadyH.nil)
    go_simp
    refine (HDS.out _ HX2.out.lk HX2.out.ls.rd).mono ?_
    rintro e y3 ⟨rfl, b3⟩
    have HX3 := Lib.hid (HX2.out.call b3)
    have M3 := Lib.hid (M2.out.below b3 M2.out.lt)
    have TZ3 := Lib.hid (StateAt.below TZ2.out b3 (StateAt.lt TZ2.out))
    clear b3 hq HX2 M2 TZ2
    have hq := (show _ from (⟨HX3.out.st.all.1, HX3.out.st.all.2.1, HX3.out.st.all.2.2.1, HX3.out.st.all.2.2.2.1, HX3.out.st.all.2.2.2.2, M3.out.in_.c0, M3.out.in_.c1⟩ : y3.cell? ⟨w.heap.size, 0, none⟩ = some (.int .i64 t) ∧ y3.cell? ⟨w.heap.size, 1, none⟩ = some (.int .i64 (j : Int)) ∧ y3.cell? ⟨w.heap.size, 2, none⟩ = some (.int .i64 r0) ∧ y3.cell? ⟨w.heap.size, 3, none⟩ = some (.int .i64 s0) ∧ y3.cell? ⟨w.heap.size, 4, none⟩ = some (.int .i64 k) ∧ y3.cell? ⟨M, 0, none⟩ = some (.int .i64 c.md.rounds) ∧ y3.cell? ⟨M, 1, none⟩ = some (.int .i64 c.md.slots)))
    go_wp2_with fail
    refine hK.out _ _ ?_ (fun hHeld => ?_)
    · exact hq
    clear hK K
    try simp only [pa, pb, pc, Act.put, pe, pf, pg]
    refine tk (i := 4) (v := .int .i64 D.dur) rfl (Or.inl ⟨by rfl, fun w hSw => by rfl⟩) (by assumption) ?_
    try simp only [pa, pb, pc, Act.put, pe, pf, pg]
    refine wpAnyH_ready (rs := [9]) (by kernel_rfl) (by simp) (AllReadyH.cons rfl (fun K hK => ?_) AllReadyH.nil)
    go_simp
    refine (HAD.out _).mono ?_
    rintro e y4 ⟨rfl, b4⟩
    have HX4 := Lib.hid (HX3.out.call b4)
    have M4 := Lib.hid (M3.out.below b4 M3.out.lt)
    have TZ4 := Lib.hid (StateAt.below TZ3.out b4 (StateAt.lt TZ3.out))
    clear b4 hq HX3 M3 TZ3
    have hq := (show _ from (⟨HX4.out.st.all.1, HX4.out.st.all.2.1, HX4.out.st.all.2.2.1, HX4.out.st.all.2.2.2.1, HX4.out.st.all.2.2.2.2, M4.out.in_.c0, M4.out.in_.c1⟩ : y4.cell? ⟨w.heap.size, 0, none⟩ = some (.int .i64 t) ∧ y4.cell? ⟨w.heap.size, 1, none⟩ = some (.int .i64 (j : Int)) ∧ y4.cell? ⟨w.heap.size, 2, none⟩ = some (.int .i64 r0) ∧ y4.cell? ⟨w.heap.size, 3, none⟩ = some (.int .i64 s0) ∧ y4.cell? ⟨w.heap.size, 4, none⟩ = some (.int .i64 k) ∧ y4.cell? ⟨M, 0, none⟩ = some (.int .i64 c.md.rounds) ∧ y4.cell? ⟨M, 1, none⟩ = some (.int .i64 c.md.slots)))
    go_wp2_with fail
    refine hK.out _ _ ?_ (fun hHeld => ?_)
    · exact hq
    clear hK K
    try simp only [pa, pb, pc, Act.put, pe, pf, pg]
    refine tk (i := 10) (v := ?_) rfl (Or.inl ⟨by rfl, ?_⟩) (by assumption) ?_
    rotate_left
    · (intro w hSw; (try dsimp only at hSw); go_simp; (try with_reducible rfl))
    try simp only [pa, pb, pc, Act.put, pe, pf, pg]
    refine tk (i := 11) (v := ?_) rfl (Or.inl ⟨by rfl, ?_⟩) (by assumption) ?_
    rotate_left
    · (intro w hSw; (try dsimp only at hSw); go_simp; (try with_reducible rfl))
    try simp only [pa, pb, pc, Act.put, pe, pf, pg]
    refine tk (i := 12) (v := ?_) rfl (Or.inl ⟨by rfl, ?_⟩) (by assumption) ?_
    rotate_left
    · (intro w hSw; (try dsimp only at hSw); go_simp; (try with_reducible rfl))
    try simp only [pa, pb, pc, Act.put, pe, pf, pg]
    have gF := grown_fiveL y4 Y y.t y.m y.r y.s y.k
    have HX9 := Lib.hid (HX4.out.other HY.out gF)
    have M9 := Lib.hid (M4.out.grown gF (fun e => by injection e with e; have := HYM.out; omega))
    have TY := Lib.hid (StateAt.five TZ4.out y.t y.m y.r y.s y.k)
    have hqB := (show _ from (⟨HX9.out.st.all.1, HX9.out.st.all.2.1, HX9.out.st.all.2.2.1, HX9.out.st.all.2.2.2.1, HX9.out.st.all.2.2.2.2, M9.out.in_.c0, M9.out.in_.c1⟩ : (((((y4.setCell ⟨Y, 0, none⟩ (.int .i64 y.t)).setCell ⟨Y, 1, none⟩ (.int .i64 y.m)).setCell ⟨Y, 2, none⟩ (.int .i64 y.r)).setCell ⟨Y, 3, none⟩ (.int .i64 y.s)).setCell ⟨Y, 4, none⟩ (.int .i64 y.k)).cell? ⟨w.heap.size, 0, none⟩ = some (.int .i64 t) ∧ (((((y4.setCell ⟨Y, 0, none⟩ (.int .i64 y.t)).setCell ⟨Y, 1, none⟩ (.int .i64 y.m)).setCell ⟨Y, 2, none⟩ (.int .i64 y.r)).setCell ⟨Y, 3, none⟩ (.int .i64 y.s)).setCell ⟨Y, 4, none⟩ (.int .i64 y.k)).cell? ⟨w.heap.size, 1, none⟩ = some (.int .i64 (j : Int)) ∧ (((((y4.setCell ⟨Y, 0, none⟩ (.int .i64 y.t)).setCell ⟨Y, 1, none⟩ (.int .i64 y.m)).setCell ⟨Y, 2, none⟩ (.int .i64 y.r)).setCell ⟨Y, 3, none⟩ (.int .i64 y.s)).setCell ⟨Y, 4, none⟩ (.int .i64 y.k)).cell? ⟨w.heap.size, 2, none⟩ = some (.int .i64 r0) ∧ (((((y4.setCell ⟨Y, 0, none⟩ (.int .i64 y.t)).setCell ⟨Y, 1, none⟩ (.int .i64 y.m)).setCell ⟨Y, 2, none⟩ (.int .i64 y.r)).setCell ⟨Y, 3, none⟩ (.int .i64 y.s)).setCell ⟨Y, 4, none⟩ (.int .i64 y.k)).cell? ⟨w.heap.size, 3, none⟩ = some (.int .i64 s0) ∧ (((((y4.setCell ⟨Y, 0, none⟩ (.int .i64 y.t)).setCell ⟨Y, 1, none⟩ (.int .i64 y.m)).setCell ⟨Y, 2, none⟩ (.int .i64 y.r)).setCell ⟨Y, 3, none⟩ (.int .i64 y.s)).setCell ⟨Y, 4, none⟩ (.int .i64 y.k)).cell? ⟨w.heap.size, 4, none⟩ = some (.int .i64 k) ∧ (((((y4.setCell ⟨Y, 0, none⟩ (.int .i64 y.t)).setCell ⟨Y, 1, none⟩ (.int .i64 y.m)).setCell ⟨Y, 2, none⟩ (.int .i64 y.r)).setCell ⟨Y, 3, none⟩ (.int .i64 y.s)).setCell ⟨Y, 4, none⟩ (.int .i64 y.k)).cell? ⟨M, 0, none⟩ = some (.int .i64 c.md.rounds) ∧ (((((y4.setCell ⟨Y, 0, none⟩ (.int .i64 y.t)).setCell ⟨Y, 1, none⟩ (.int .i64 y.m)).setCell ⟨Y, 2, none⟩ (.int .i64 y.r)).setCell ⟨Y, 3, none⟩ (.int .i64 y.s)).setCell ⟨Y, 4, none⟩ (.int .i64 y.k)).cell? ⟨M, 1, none⟩ = some (.int .i64 c.md.slots)))
    have z0 := TZ4.out.c0; have z1 := TZ4.out.c1; have z2 := TZ4.out.c2; have z3 := TZ4.out.c3; have z4 := TZ4.out.c4
    have k0 := TZ4.out.f 0; have k1 := TZ4.out.f 1; have k2 := TZ4.out.f 2; have k3 := TZ4.out.f 3; have k4 := TZ4.out.f 4
    refine wpAnyH_ready (rs := [14]) (by kernel_rfl) (by simp) (AllReadyH.cons rfl (fun K hK => ?_) AllReadyH.nil)
    go_simp
    refine hK.out _ _ ?_ (fun hHeld => ?_)
    · exact hqB
    clear hK K z0 z1 z2 z3 z4 k0 k1 k2 k3 k4 hq gF
    try simp only [pa, pb, pc, Act.put, pe, pf, pg]
    refine tk (i := 15) (v := ?_) rfl (Or.inl ⟨by rfl, ?_⟩) (by assumption) ?_
    rotate_left
    · (intro w hSw; (try dsimp only at hSw); go_simp; (try with_reducible rfl))
    try simp only [pa, pb, pc, Act.put, pe, pf, pg]
    refine wpAnyH_done (by kernel_rfl) ?_ _
    clear hHeld hqB
    rw [show (((((y4.setCell ⟨Y, 0, none⟩ (.int .i64 y.t)).setCell ⟨Y, 1, none⟩ (.int .i64 y.m)).setCell ⟨Y, 2, none⟩ (.int .i64 y.r)).setCell ⟨Y, 3, none⟩ (.int .i64 y.s)).setCell ⟨Y, 4, none⟩ (.int .i64 y.k)) = (setFive y4 Y y.t y.m y.r y.s y.k) from rfl]
    generalize (setFive y4 Y y.t y.m y.r y.s y.k) = w7 at HX9 M9 TY ⊢
    have t0 := TY.out.c0; have t1 := TY.out.c1; have t2 := TY.out.c2; have t3 := TY.out.c3; have t4 := TY.out.c4
    have g0 := HX9.out.res.c0; have g1 := HX9.out.res.c1; have g2 := HX9.out.res.c2; have g3 := HX9.out.res.c3; have g4 := HX9.out.res.c4
    have f0 := HX9.out.res.f 0; have f1 := HX9.out.res.f 1; have f2 := HX9.out.res.f 2; have f3 := HX9.out.res.f 3; have f4 := HX9.out.res.f 4
    go_wp2_with fail
    clear t0 t1 t2 t3 t4 g0 g1 g2 g3 g4 f0 f1 f2 f3 f4
    change bodyPost _ _ _ _ _ (setFive w7 (w.heap.size + 1) y.t y.m y.r y.s y.k)
    have SF := StateAt.five HX9.out.res y.t y.m y.r y.s y.k
    have BF := HX9.out.ls.below.trans (below_five (B := w.heap.size) (w := w7) (b := w.heap.size + 1) (by omega) y.t y.m y.r y.s y.k)
    generalize setFive w7 (w.heap.size + 1) y.t y.m y.r y.s y.k = wz at SF BF ⊢
    have e0 := SF.c0; have e1 := SF.c1; have e2 := SF.c2; have e3 := SF.c3; have e4 := SF.c4
    exact bodyPost_ret (v := ssVal y) (by simp [ssVal, results, Tryz.results72, go_sem, e0, e1, e2, e3, e4]) rfl ⟨rfl, BF⟩
end

section
open Go.RowKit
section
variable {P : Program} {E T : Nat} (w : World) {ops : Array Oper} {rest : List Oper} {o : Oper} {a : Act} {Q : Exit → Act → World → Prop}
end
theorem RdE.ne_lk {w : World} {g off n b : Nat} {t : List Sl} {v : Mv} {d l : Int} {sv : Value} (h : RdE w (some ⟨g, off, none⟩) n t) (hn : 0 < n) (hl : LkAt w b v d l sv) : g ≠ b := by
  rintro rfl
  obtain ⟨g', off', e, hx⟩ := h.here hn
  cases e
  have h0 := hx 0 hn
  have c1 := h0.c1
  have c7 := h0.c7
  rcases Nat.eq_zero_or_pos off with rfl | hp
  · have := hl.c1
    rw [show (0 + 0 * 8 + 1 : Nat) = 1 by omega] at c1
    rw [this] at c1
    cases c1
  · have h7 := cell_of_row w g (off + 0 * 8 + 7) _ _ (0, 0) hl
    rw [h7] at c7
    rw [Array.getElem?_eq_none (by simp; omega)] at c7
    cases c7
theorem RdE.grownL {w w' : World} {ao : Option Addr} {n b : Nat} {t : List Sl} {v : Mv} {d l : Int} {sv : Value} (h : RdE w ao n t) (hl : LkAt w b v d l sv) (hg : w.grownBy w' (some b)) : RdE w' ao n t := by
  refine ⟨h.len, fun hn => ?_⟩
  obtain ⟨g, off, e, hx⟩ := h.here hn
  subst e
  have hne : some g ≠ some b := fun e => h.ne_lk hn hl (by injection e)
  exact ⟨g, off, rfl, fun i hi => by
    have hy := hx i hi
    exact ⟨hg.cell hy.c0 hne, hg.cell hy.c1 hne, hg.cell hy.c2 hne, hg.cell hy.c3 hne, hg.cell hy.c4 hne, hg.cell hy.c5 hne, hg.cell hy.c6 hne, hg.cell hy.c7 hne⟩⟩
section
variable {w W W' : World} {b base : Nat} {v : Mv} {so : Option Addr} {L : List Sl} {o o' sv : Value} {rows : List Value} {xs : List Int}
end
end
end Go.Proofs.YthihjhidjnadaaaGreat
