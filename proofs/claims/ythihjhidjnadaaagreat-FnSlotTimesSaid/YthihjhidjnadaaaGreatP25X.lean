/-
  Contracts of the program's, the model's and the laws' functions, and plain mathematics, on which a proof of this claim stands (part X).
-/

import Derived.Test.YthihjhidjnadaaaGreatP25U
import Derived.Test.YthihjhidjnadaaaGreatP25N
namespace Go.Proofs.YthihjhidjnadaaaGreat
section
open Go.RowKit
structure NzL (w W : World) (b : Nat) (v : Mv) (d : Int) (sv : Value) (x : Ss) : Prop where
  ls : Ls w W b v d sv w.heap.size x
  res : StateAt 30 W (w.heap.size + 1) 0 0 0 0 0
  lt : b < w.heap.size
  rd0 : RdMe w v
section
variable {w W W' : World} {b : Nat} {v : Mv} {d : Int} {sv : Value} {x : Ss}
theorem NzL.call (h : NzL w W b v d sv x) (hb : Below W.heap.size W W') : NzL w W' b v d sv x := ⟨h.ls.call hb, StateAt.below h.res hb (StateAt.lt h.res), h.lt, h.rd0⟩
theorem NzL.drew (h : NzL w W b v d sv x) : NzL w W.drew b v d sv x := h.call (Below.drew (Below.refl _ _))
theorem NzL.st (h : NzL w W b v d sv x) : SsAt W w.heap.size x := h.ls.st
theorem NzL.lk (h : NzL w W b v d sv x) : LkAt W b v d 0 sv := h.ls.lk
theorem NzL.start (hl : LkAt w b v d 0 sv) (hr : RdMe w v) : NzL w ((w.alloc (.cells #[.int .i64 x.t, .int .i64 x.m, .int .i64 x.r, .int .i64 x.s, .int .i64 x.k] 30)).alloc (.cells #[.int .i64 0, .int .i64 0, .int .i64 0, .int .i64 0, .int .i64 0] 30)) b v d sv x := by
  have h := (Ls.start (x := x) hl hr).call ((Below.refl _ _).alloc (Nat.le_refl _) (.cells #[.int .i64 0, .int .i64 0, .int .i64 0, .int .i64 0, .int .i64 0] 30))
  refine ⟨h, ?_, hl.lt, hr⟩
  have e : w.heap.size + 1 = (w.alloc (.cells #[.int .i64 x.t, .int .i64 x.m, .int .i64 x.r, .int .i64 x.s, .int .i64 x.k] 30)).heap.size := by simp
  rw [e]
  exact StateAt.new _
theorem NzL.other (h : NzL w W b v d sv x) {K : Nat} (hK : w.heap.size + 1 < K) (g : W.grownBy W' (some K)) : NzL w W' b v d sv x := by
  have hlt := h.lt
  have hb : Below w.heap.size w W' := h.ls.below.grown g h.ls.below.size (fun k hk => by cases hk; omega)
  exact ⟨⟨h.ls.lk.grown g (fun e => by injection e; omega), StateAt.grown h.ls.st g (fun e => by injection e; omega), h.rd0.below hb, hb⟩, StateAt.grown h.res g (fun e => by injection e; omega), h.lt, h.rd0⟩
end
theorem grown_fiveL (w : World) (b : Nat) (t m r s k : Int) : w.grownBy (setFive w b t m r s k) (some b) :=
  grown_trans (grown_trans (grown_trans (grown_trans (grown_set' w b 0 _) (grown_set' _ b 1 _)) (grown_set' _ b 2 _)) (grown_set' _ b 3 _)) (grown_set' _ b 4 _)
theorem Lies.advance {m : Me} {x : Ss} {j R S r s : Nat} (W : Well m) (h : Lies m x j R S r s) (w : World) :
    Calls Tryz.prog 130 #[ssVal x, .int .i64 (descOf m x).dur, .int .i64 (S : Int), .int .i64 (R : Int)] w fun e w' => e = .returned (.tuple #[ssVal (nextOf m x), .int .i64 0]) ∧ Below w.heap.size w w' := by
  have hA := isState_iff.2 (show (0 ≤ x.t ∧ x.t ≤ 65535) ∧ (0 ≤ x.m ∧ x.m ≤ 15) ∧ (0 ≤ x.r ∧ x.r ≤ 15) ∧ (0 ≤ x.s ∧ x.s ≤ 255) ∧ 0 ≤ x.k ∧ x.k ≤ 4294967295 from by
    obtain ⟨h1, h2, h3, h4, h5, h6, h7, h8, h9, ha, hb, hc, hd, he, hf, hg, hh, hi, hj⟩ := h
    omega)
  have hd := h.dur W
  have h0 := advanceState_any x.t x.m x.r x.s x.k (descOf m x).dur S R w
  rw [ad_0 hA (may_iff.2 (by
    obtain ⟨h1, h2, h3, h4, h5, h6, h7, h8, h9, ha, hb, hc, hd, he, hf, hg, hh, hi, hj⟩ := h
    omega))] at h0
  rw [h.next]
  have e1 := h.xr
  have e2 := h.xs
  rw [e1, e2] at h0
  unfold ssVal
  rw [e1, e2]
  exact h0
set_option linter.unusedSimpArgs false in
set_option maxRecDepth 100000 in
set_option maxHeartbeats 4000000 in
theorem luNext_any {b : Nat} {v : Mv} {d : Int} {sv : Value} {x : Ss} {j R S r s : Nat} (w : World) (hl : LkAt w b v d 0 sv) (hr : RdMe w v) (hw : Well v.me) (hy : Lies v.me x j R S r s) :
    Calls Tryz.prog 72 #[.pointer (some ⟨b, 0, none⟩), ssVal x] w fun e w' => e = .returned (ssVal (nextOf v.me x)) ∧ Below w.heap.size w w' := by
  have HX := Lib.hid (NzL.start (x := x) hl hr)
  have hjc : j < v.cs.length := by have e : v.me.modes.length = v.cs.length := mds_len v.cs; have := hy.hj; omega
  have HMD := Lib.hid (fun W (hW : RdMe W v) => hW.rm.at hjc)
  have e1 := hy.hR
  have e2 := hy.hS
  rw [mdOf_me] at e1 e2
  have HDS := Lib.hid (fun W hl hW => descriptor_any (b := b) (d := d) (sv := sv) W hl hW hw hy)
  have HAD := Lib.hid (hy.advance hw)
  have he := hy.hm
  generalize nextOf v.me x = y at HAD ⊢
  generalize descOf v.me x = D at HDS HAD
  generalize mcOf v.cs j = c at e1 e2 HMD
  rw [← e1, ← e2] at HAD
  clear e1 e2 hl hr hw hy
  obtain ⟨t, m, r0, s0, k⟩ := x
  dsimp only at he
  subst he
  unfold ssVal at HDS HAD ⊢
  unfold dsVal at HDS
  dsimp only at HDS HAD
  go_enter Tryz.func72, Tryz.ntmps72
  go_upto_region 1 with fail
  dsimp only at HX
  generalize (w.alloc (.cells #[.int .i64 t, .int .i64 (j : Int), .int .i64 r0, .int .i64 s0, .int .i64 k] 30)).alloc (.cells #[.int .i64 0, .int .i64 0, .int .i64 0, .int .i64 0, .int .i64 0] 30) = w1 at HX ⊢
  obtain ⟨g, off, e0, hg, hx, -⟩ := HMD.out _ HX.out.ls.rd
  have HX2 := HX
  clear HX
  go_upto_region 1 with fail
  have HXd := Lib.hid HX2.out.drew
  have HMX := Lib.hid (hx.below (Below.drew (Below.refl _ _)) hx.lt)
  have hq := (show _ from (⟨HXd.out.st.all.2.1, by have h := HXd.out.lk.c2; rwa [e0] at h, HMX.out.c0, HMX.out.c1, HMX.out.c2⟩ : w1.drew.cell? ⟨w.heap.size, 1, none⟩ = some (.int .i64 (j : Int)) ∧ w1.drew.cell? ⟨b, 2, none⟩ = some (.slice (some ⟨g, off, none⟩) v.cs.length v.mc) ∧ w1.drew.cell? ⟨g, off + j * 3, none⟩ = some (.int .i64 c.md.rounds) ∧ w1.drew.cell? ⟨g, off + j * 3 + 1, none⟩ = some (.int .i64 c.md.slots) ∧ w1.drew.cell? ⟨g, off + j * 3 + 2, none⟩ = some (.slice c.ao c.md.next.length c.cap)))
  clear hx
  refine wp_region_held_drew (S := fun w' => w'.cell? ⟨w.heap.size, 1, none⟩ = some (.int .i64 (j : Int)) ∧ w'.cell? ⟨b, 2, none⟩ = some (.slice (some ⟨g, off, none⟩) v.cs.length v.mc) ∧ w'.cell? ⟨g, off + j * 3, none⟩ = some (.int .i64 c.md.rounds) ∧ w'.cell? ⟨g, off + j * 3 + 1, none⟩ = some (.int .i64 c.md.slots) ∧ w'.cell? ⟨g, off + j * 3 + 2, none⟩ = some (.slice c.ao c.md.next.length c.cap)) (by kernel_rfl) (hq) (fun hHeld => ?_)
  generalize w1.drew = wd at HXd HMX hq hHeld ⊢
  refine tk (i := 0) (v := ?_) rfl (Or.inl ⟨by rfl, ?_⟩) (by assumption) ?_
  rotate_left
  · (intro w hSw; (try dsimp only at hSw); go_simp; (try with_reducible rfl))
  try simp only [pa, pb, pc, Act.put, pe, pf, pg]
  refine tk (i := 1) (v := ?_) rfl (Or.inl ⟨by rfl, ?_⟩) (by assumption) ?_
  rotate_left
  · (intro w hSw; (try dsimp only at hSw); go_simp; (try with_reducible rfl))
  try simp only [pa, pb, pc, Act.put, pe, pf, pg]
  refine tk (i := 2) (v := ?_) rfl (Or.inl ⟨by rfl, ?_⟩) (by assumption) ?_
  rotate_left
  · (intro w hSw; (try dsimp only at hSw); go_simp; (try with_reducible rfl))
  try simp only [pa, pb, pc, Act.put, pe, pf, pg]
  refine tk (i := 3) (v := ?_) rfl (Or.inl ⟨by rfl, ?_⟩) (by assumption) ?_
  rotate_left
  · (intro w hSw; (try dsimp only at hSw); go_simp; (try with_reducible rfl))
  try simp only [pa, pb, pc, Act.put, pe, pf, pg]
  refine tk (i := 4) (v := ?_) rfl (Or.inl ⟨by rfl, ?_⟩) (by assumption) ?_
  rotate_left
  · (intro w hSw; (try dsimp only at hSw); go_simp; (try with_reducible rfl))
  try simp only [pa, pb, pc, Act.put, pe, pf, pg]
  refine tk (i := 5) (v := ?_) rfl (Or.inl ⟨by rfl, ?_⟩) (by assumption) ?_
  rotate_left
  · (intro w hSw; (try dsimp only at hSw); go_simp; (try with_reducible rfl))
  try simp only [pa, pb, pc, Act.put, pe, pf, pg]
  refine tk (i := 6) (v := ?_) rfl (Or.inl ⟨by rfl, ?_⟩) (by assumption) ?_
  rotate_left
  · (intro w hSw; (try dsimp only at hSw); go_simp; (try with_reducible rfl))
  try simp only [pa, pb, pc, Act.put, pe, pf, pg]
  refine tk (i := 7) (v := ?_) rfl (Or.inl ⟨by rfl, ?_⟩) (by assumption) ?_
  rotate_left
  · (intro w hSw; (try dsimp only at hSw); go_simp; (try with_reducible rfl))
  try simp only [pa, pb, pc, Act.put, pe, pf, pg]
  refine tk (i := 8) (v := ?_) rfl (Or.inl ⟨by rfl, ?_⟩) (by assumption) ?_
  rotate_left
  · (intro w hSw; (try dsimp only at hSw); go_simp; (try with_reducible rfl))
  try simp only [pa, pb, pc, Act.put, pe, pf, pg]
  have bZ := (Below.refl wd.heap.size wd).alloc (Nat.le_refl _) (.cells #[.int .i64 0, .int .i64 0, .slice none 0 0] 99)
  have HXA := Lib.hid (HXd.out.call bZ)
  have HMA := Lib.hid (HMX.out.below bZ HMX.out.lt)
  have hqA := (show _ from (⟨HXA.out.st.all.2.1, by have h := HXA.out.lk.c2; rwa [e0] at h, HMA.out.c0, HMA.out.c1, HMA.out.c2⟩ : (wd.alloc (.cells #[.int .i64 0, .int .i64 0, .slice none 0 0] 99)).cell? ⟨w.heap.size, 1, none⟩ = some (.int .i64 (j : Int)) ∧ (wd.alloc (.cells #[.int .i64 0, .int .i64 0, .slice none 0 0] 99)).cell? ⟨b, 2, none⟩ = some (.slice (some ⟨g, off, none⟩) v.cs.length v.mc) ∧ (wd.alloc (.cells #[.int .i64 0, .int .i64 0, .slice none 0 0] 99)).cell? ⟨g, off + j * 3, none⟩ = some (.int .i64 c.md.rounds) ∧ (wd.alloc (.cells #[.int .i64 0, .int .i64 0, .slice none 0 0] 99)).cell? ⟨g, off + j * 3 + 1, none⟩ = some (.int .i64 c.md.slots) ∧ (wd.alloc (.cells #[.int .i64 0, .int .i64 0, .slice none 0 0] 99)).cell? ⟨g, off + j * 3 + 2, none⟩ = some (.slice c.ao c.md.next.length c.cap)))
  refine wpAnyH_ready (rs := [9]) (by kernel_rfl) (by simp) (AllReadyH.cons rfl (fun K hK => ?_) AllReadyH.nil)
  go_simp
  refine hK.out _ _ ?_ (fun hHeld => ?_)
  · exact hqA
  clear hK K
  try simp only [pa, pb, pc, Act.put, pe, pf, pg]
  have bS := (Below.refl wd.heap.size wd).alloc (Nat.le_refl _) (.cells #[.int .i64 c.md.rounds, .int .i64 c.md.slots, .slice c.ao c.md.next.length c.cap] 99)
  have HXB := Lib.hid (HXd.out.call bS)
  have HMB := Lib.hid (HMX.out.below bS HMX.out.lt)
  have MC := Lib.hid (McAt.new (T := 99) (c := c) wd)
  have hqB := (show _ from (⟨HXB.out.st.all.2.1, by have h := HXB.out.lk.c2; rwa [e0] at h, HMB.out.c0, HMB.out.c1, HMB.out.c2⟩ : (wd.alloc (.cells #[.int .i64 c.md.rounds, .int .i64 c.md.slots, .slice c.ao c.md.next.length c.cap] 99)).cell? ⟨w.heap.size, 1, none⟩ = some (.int .i64 (j : Int)) ∧ (wd.alloc (.cells #[.int .i64 c.md.rounds, .int .i64 c.md.slots, .slice c.ao c.md.next.length c.cap] 99)).cell? ⟨b, 2, none⟩ = some (.slice (some ⟨g, off, none⟩) v.cs.length v.mc) ∧ (wd.alloc (.cells #[.int .i64 c.md.rounds, .int .i64 c.md.slots, .slice c.ao c.md.next.length c.cap] 99)).cell? ⟨g, off + j * 3, none⟩ = some (.int .i64 c.md.rounds) ∧ (wd.alloc (.cells #[.int .i64 c.md.rounds, .int .i64 c.md.slots, .slice c.ao c.md.next.length c.cap] 99)).cell? ⟨g, off + j * 3 + 1, none⟩ = some (.int .i64 c.md.slots) ∧ (wd.alloc (.cells #[.int .i64 c.md.rounds, .int .i64 c.md.slots, .slice c.ao c.md.next.length c.cap] 99)).cell? ⟨g, off + j * 3 + 2, none⟩ = some (.slice c.ao c.md.next.length c.cap)))
  refine wpAnyH_ready (rs := [10]) (by kernel_rfl) (by simp) (AllReadyH.cons rfl (fun K hK => ?_) AllReadyH.nil)
  go_simp
  refine hK.out _ _ ?_ (fun hHeld => ?_)
  · exact hqB
  clear hK K
  try simp only [pa, pb, pc, Act.put, pe, pf, pg]
  refine wpAnyH_done (by kernel_rfl) ?_ _
  clear hq hqA hqB HXA HMA HXd HMX HMB bZ bS
  obtain ⟨M, hM⟩ : ∃ M, M = wd.heap.size := ⟨_, rfl⟩
  rw [← hM] at MC ⊢
  clear hM
  generalize wd.alloc (.cells #[.int .i64 c.md.rounds, .int .i64 c.md.slots, .slice c.ao c.md.next.length c.cap] 99) = w5 at HXB MC hHeld ⊢
  clear hHeld
  go_upto_region 2 with fail
  have HX1 := Lib.hid HXB.out.drew
  have M1 := Lib.hid (MC.out.below (Below.drew (Below.refl _ _)) MC.out.lt)
  have hq := (show _ from (⟨HX1.out.st.all.1, HX1.out.st.all.2.1, HX1.out.st.all.2.2.1, HX1.out.st.all.2.2.2.1, HX1.out.st.all.2.2.2.2, M1.out.in_.c0, M1.out.in_.c1⟩ : w5.drew.cell? ⟨w.heap.size, 0, none⟩ = some (.int .i64 t) ∧ w5.drew.cell? ⟨w.heap.size, 1, none⟩ = some (.int .i64 (j : Int)) ∧ w5.drew.cell? ⟨w.heap.size, 2, none⟩ = some (.int .i64 r0) ∧ w5.drew.cell? ⟨w.heap.size, 3, none⟩ = some (.int .i64 s0) ∧ w5.drew.cell? ⟨w.heap.size, 4, none⟩ = some (.int .i64 k) ∧ w5.drew.cell? ⟨M, 0, none⟩ = some (.int .i64 c.md.rounds) ∧ w5.drew.cell? ⟨M, 1, none⟩ = some (.int .i64 c.md.slots)))
  clear HXB MC
  refine wp_region_held_drew (S := fun w' => w'.cell? ⟨w.heap.size, 0, none⟩ = some (.int .i64 t) ∧ w'.cell? ⟨w.heap.size, 1, none⟩ = some (.int .i64 (j : Int)) ∧ w'.cell? ⟨w.heap.size, 2, none⟩ = some (.int .i64 r0) ∧ w'.cell? ⟨w.heap.size, 3, none⟩ = some (.int .i64 s0) ∧ w'.cell? ⟨w.heap.size, 4, none⟩ = some (.int .i64 k) ∧ w'.cell? ⟨M, 0, none⟩ = some (.int .i64 c.md.rounds) ∧ w'.cell? ⟨M, 1, none⟩ = some (.int .i64 c.md.slots)) (by kernel_rfl) (hq) (fun hHeld => ?_)
  generalize w5.drew = y1 at HX1 M1 hq hHeld ⊢
  refine tk (i := 0) (v := ?_) rfl (Or.inl ⟨by rfl, ?_⟩) (by assumption) ?_
  rotate_left
  · (intro w hSw; (try dsimp only at hSw); go_simp; (try with_reducible rfl))
  try simp only [pa, pb, pc, Act.put, pe, pf, pg]
  refine tk (i := 1) (v := ?_) rfl (Or.inl ⟨by rfl, ?_⟩) (by assumption) ?_
  rotate_left
  · (intro w hSw; (try dsimp only at hSw); go_simp; (try with_reducible rfl))
  try simp only [pa, pb, pc, Act.put, pe, pf, pg]
  refine tk (i := 2) (v := ?_) rfl (Or.inl ⟨by rfl, ?_⟩) (by assumption) ?_
  rotate_left
  · (intro w hSw; (try dsimp only at hSw); go_simp; (try with_reducible rfl))
  try simp only [pa, pb, pc, Act.put, pe, pf, pg]
  refine tk (i := 5) (v := ?_) rfl (Or.inl ⟨by rfl, ?_⟩) (by assumption) ?_
  rotate_left
  · (intro w hSw; (try dsimp only at hSw); go_simp; (try with_reducible rfl))
  try simp only [pa, pb, pc, Act.put, pe, pf, pg]
  refine tk (i := 6) (v := ?_) rfl (Or.inl ⟨by rfl, ?_⟩) (by assumption) ?_
  rotate_left
  · (intro w hSw; (try dsimp only at hSw); go_simp; (try with_reducible rfl))
  try simp only [pa, pb, pc, Act.put, pe, pf, pg]
  refine tk (i := 7) (v := ?_) rfl (Or.inl ⟨by rfl, ?_⟩) (by assumption) ?_
  rotate_left
  · (intro w hSw; (try dsimp only at hSw); go_simp; (try with_reducible rfl))
  try simp only [pa, pb, pc, Act.put, pe, pf, pg]
  refine tk (i := 8) (v := ?_) rfl (Or.inl ⟨by rfl, ?_⟩) (by assumption) ?_
  rotate_left
  · (intro w hSw; (try dsimp only at hSw); go_simp; (try with_reducible rfl))
  try simp only [pa, pb, pc, Act.put, pe, pf, pg]
  refine wpAnyH_ready (rs := [3, 13]) (by kernel_rfl) (by simp) (AllReadyH.cons rfl (fun K hK => ?_) (AllReadyH.cons rfl (fun K hK => ?_) (AllReadyH.nil)))
  · go_simp
    refine (HDS.out _ HX1.out.lk HX1.out.ls.rd).mono ?_
    rintro e y2 ⟨rfl, b2⟩
    have HX2 := Lib.hid (HX1.out.call b2)
    have M2 := Lib.hid (M1.out.below b2 M1.out.lt)
    clear b2 hq HX1 M1
    have hq := (show _ from (⟨HX2.out.st.all.1, HX2.out.st.all.2.1, HX2.out.st.all.2.2.1, HX2.out.st.all.2.2.2.1, HX2.out.st.all.2.2.2.2, M2.out.in_.c0, M2.out.in_.c1⟩ : y2.cell? ⟨w.heap.size, 0, none⟩ = some (.int .i64 t) ∧ y2.cell? ⟨w.heap.size, 1, none⟩ = some (.int .i64 (j : Int)) ∧ y2.cell? ⟨w.heap.size, 2, none⟩ = some (.int .i64 r0) ∧ y2.cell? ⟨w.heap.size, 3, none⟩ = some (.int .i64 s0) ∧ y2.cell? ⟨w.heap.size, 4, none⟩ = some (.int .i64 k) ∧ y2.cell? ⟨M, 0, none⟩ = some (.int .i64 c.md.rounds) ∧ y2.cell? ⟨M, 1, none⟩ = some (.int .i64 c.md.slots)))
    go_wp2_with fail
    refine hK.out _ _ ?_ (fun hHeld => ?_)
    · exact hq
    clear hK K
    try simp only [pa, pb, pc, Act.put, pe, pf, pg]
    refine tk (i := 4) (v := .int .i64 D.dur) rfl (Or.inl ⟨by rfl, fun w hSw => by rfl⟩) (by assumption) ?_
    try simp only [pa, pb, pc, Act.put, pe, pf, pg]
    refine wpAnyH_ready (rs := [9, 13]) (by kernel_rfl) (by simp) (AllReadyH.cons rfl (fun K hK => ?_) (AllReadyH.cons rfl (fun K hK => ?_) (AllReadyH.nil)))
    · go_simp
      refine (HAD.out _).mono ?_
      rintro e y3 ⟨rfl, b3⟩
      have HX3 := Lib.hid (HX2.out.call b3)
      have M3 := Lib.hid (M2.out.below b3 M2.out.lt)
      clear b3 hq HX2 M2
      have hq := (show _ from (⟨HX3.out.st.all.1, HX3.out.st.all.2.1, HX3.out.st.all.2.2.1, HX3.out.st.all.2.2.2.1, HX3.out.st.all.2.2.2.2, M3.out.in_.c0, M3.out.in_.c1⟩ : y3.cell? ⟨w.heap.size, 0, none⟩ = some (.int .i64 t) ∧ y3.cell? ⟨w.heap.size, 1, none⟩ = some (.int .i64 (j : Int)) ∧ y3.cell? ⟨w.heap.size, 2, none⟩ = some (.int .i64 r0) ∧ y3.cell? ⟨w.heap.size, 3, none⟩ = some (.int .i64 s0) ∧ y3.cell? ⟨w.heap.size, 4, none⟩ = some (.int .i64 k) ∧ y3.cell? ⟨M, 0, none⟩ = some (.int .i64 c.md.rounds) ∧ y3.cell? ⟨M, 1, none⟩ = some (.int .i64 c.md.slots)))
      go_wp2_with fail
      refine hK.out _ _ ?_ (fun hHeld => ?_)
      · exact hq
      clear hK K
      try simp only [pa, pb, pc, Act.put, pe, pf, pg]
      refine tk (i := 10) (v := ?_) rfl (Or.inl ⟨by rfl, ?_⟩) (by assumption) ?_
      rotate_left
      · (intro w hSw; (try dsimp only at hSw); go_simp; (try with_reducible rfl))
      try simp only [pa, pb, pc, Act.put, pe, pf, pg]
      refine tk (i := 11) (v := ?_) rfl (Or.inl ⟨by rfl, ?_⟩) (by assumption) ?_
      rotate_left
      · (intro w hSw; (try dsimp only at hSw); go_simp; (try with_reducible rfl))
      try simp only [pa, pb, pc, Act.put, pe, pf, pg]
      refine tk (i := 12) (v := ?_) rfl (Or.inl ⟨by rfl, ?_⟩) (by assumption) ?_
      rotate_left
      · (intro w hSw; (try dsimp only at hSw); go_simp; (try with_reducible rfl))
      try simp only [pa, pb, pc, Act.put, pe, pf, pg]
      have bZ := (Below.refl y3.heap.size y3).alloc (Nat.le_refl _) (.cells #[.int .i64 0, .int .i64 0, .int .i64 0, .int .i64 0, .int .i64 0] 30)
      have HXA := Lib.hid (HX3.out.call bZ)
      have MA := Lib.hid (M3.out.below bZ M3.out.lt)
      have hqA := (show _ from (⟨HXA.out.st.all.1, HXA.out.st.all.2.1, HXA.out.st.all.2.2.1, HXA.out.st.all.2.2.2.1, HXA.out.st.all.2.2.2.2, MA.out.in_.c0, MA.out.in_.c1⟩ : (y3.alloc (.cells #[.int .i64 0, .int .i64 0, .int .i64 0, .int .i64 0, .int .i64 0] 30)).cell? ⟨w.heap.size, 0, none⟩ = some (.int .i64 t) ∧ (y3.alloc (.cells #[.int .i64 0, .int .i64 0, .int .i64 0, .int .i64 0, .int .i64 0] 30)).cell? ⟨w.heap.size, 1, none⟩ = some (.int .i64 (j : Int)) ∧ (y3.alloc (.cells #[.int .i64 0, .int .i64 0, .int .i64 0, .int .i64 0, .int .i64 0] 30)).cell? ⟨w.heap.size, 2, none⟩ = some (.int .i64 r0) ∧ (y3.alloc (.cells #[.int .i64 0, .int .i64 0, .int .i64 0, .int .i64 0, .int .i64 0] 30)).cell? ⟨w.heap.size, 3, none⟩ = some (.int .i64 s0) ∧ (y3.alloc (.cells #[.int .i64 0, .int .i64 0, .int .i64 0, .int .i64 0, .int .i64 0] 30)).cell? ⟨w.heap.size, 4, none⟩ = some (.int .i64 k) ∧ (y3.alloc (.cells #[.int .i64 0, .int .i64 0, .int .i64 0, .int .i64 0, .int .i64 0] 30)).cell? ⟨M, 0, none⟩ = some (.int .i64 c.md.rounds) ∧ (y3.alloc (.cells #[.int .i64 0, .int .i64 0, .int .i64 0, .int .i64 0, .int .i64 0] 30)).cell? ⟨M, 1, none⟩ = some (.int .i64 c.md.slots)))
      refine wpAnyH_ready (rs := [13]) (by kernel_rfl) (by simp) (AllReadyH.cons rfl (fun K hK => ?_) AllReadyH.nil)
      go_simp
      refine hK.out _ _ ?_ (fun hHeld => ?_)
      · exact hqA
      clear hK K
      try simp only [pa, pb, pc, Act.put, pe, pf, pg]
      have bS := (Below.refl y3.heap.size y3).alloc (Nat.le_refl _) (.cells #[.int .i64 y.t, .int .i64 y.m, .int .i64 y.r, .int .i64 y.s, .int .i64 y.k] 30)
      have HX9 := Lib.hid (HX3.out.call bS)
      have M9 := Lib.hid (M3.out.below bS M3.out.lt)
      have TY := Lib.hid (StateAt.new (T := 30) (t := y.t) (m := y.m) (r := y.r) (s := y.s) (k := y.k) y3)
      have hqB := (show _ from (⟨HX9.out.st.all.1, HX9.out.st.all.2.1, HX9.out.st.all.2.2.1, HX9.out.st.all.2.2.2.1, HX9.out.st.all.2.2.2.2, M9.out.in_.c0, M9.out.in_.c1⟩ : (y3.alloc (.cells #[.int .i64 y.t, .int .i64 y.m, .int .i64 y.r, .int .i64 y.s, .int .i64 y.k] 30)).cell? ⟨w.heap.size, 0, none⟩ = some (.int .i64 t) ∧ (y3.alloc (.cells #[.int .i64 y.t, .int .i64 y.m, .int .i64 y.r, .int .i64 y.s, .int .i64 y.k] 30)).cell? ⟨w.heap.size, 1, none⟩ = some (.int .i64 (j : Int)) ∧ (y3.alloc (.cells #[.int .i64 y.t, .int .i64 y.m, .int .i64 y.r, .int .i64 y.s, .int .i64 y.k] 30)).cell? ⟨w.heap.size, 2, none⟩ = some (.int .i64 r0) ∧ (y3.alloc (.cells #[.int .i64 y.t, .int .i64 y.m, .int .i64 y.r, .int .i64 y.s, .int .i64 y.k] 30)).cell? ⟨w.heap.size, 3, none⟩ = some (.int .i64 s0) ∧ (y3.alloc (.cells #[.int .i64 y.t, .int .i64 y.m, .int .i64 y.r, .int .i64 y.s, .int .i64 y.k] 30)).cell? ⟨w.heap.size, 4, none⟩ = some (.int .i64 k) ∧ (y3.alloc (.cells #[.int .i64 y.t, .int .i64 y.m, .int .i64 y.r, .int .i64 y.s, .int .i64 y.k] 30)).cell? ⟨M, 0, none⟩ = some (.int .i64 c.md.rounds) ∧ (y3.alloc (.cells #[.int .i64 y.t, .int .i64 y.m, .int .i64 y.r, .int .i64 y.s, .int .i64 y.k] 30)).cell? ⟨M, 1, none⟩ = some (.int .i64 c.md.slots)))
      refine wpAnyH_ready (rs := [14]) (by kernel_rfl) (by simp) (AllReadyH.cons rfl (fun K hK => ?_) AllReadyH.nil)
      go_simp
      refine hK.out _ _ ?_ (fun hHeld => ?_)
      · exact hqB
      clear hK K
      try simp only [pa, pb, pc, Act.put, pe, pf, pg]
      refine tk (i := 15) (v := ?_) rfl (Or.inl ⟨by rfl, ?_⟩) (by assumption) ?_
      rotate_left
      · (intro w hSw; (try dsimp only at hSw); go_simp; (try with_reducible rfl))
      try simp only [pa, pb, pc, Act.put, pe, pf, pg]
      refine wpAnyH_done (by kernel_rfl) ?_ _
      clear hq hqA hqB HXA MA HX3 M3 bZ bS hHeld
      obtain ⟨Y, hY⟩ : ∃ Y, Y = y3.heap.size := ⟨_, rfl⟩
      rw [← hY] at TY ⊢
      clear hY
      generalize y3.alloc (.cells #[.int .i64 y.t, .int .i64 y.m, .int .i64 y.r, .int .i64 y.s, .int .i64 y.k] 30) = w7 at HX9 M9 TY ⊢
      have t0 := TY.out.c0; have t1 := TY.out.c1; have t2 := TY.out.c2; have t3 := TY.out.c3; have t4 := TY.out.c4
      have g0 := HX9.out.res.c0; have g1 := HX9.out.res.c1; have g2 := HX9.out.res.c2; have g3 := HX9.out.res.c3; have g4 := HX9.out.res.c4
      have f0 := HX9.out.res.f 0; have f1 := HX9.out.res.f 1; have f2 := HX9.out.res.f 2; have f3 := HX9.out.res.f 3; have f4 := HX9.out.res.f 4
      go_wp2_with fail
      clear t0 t1 t2 t3 t4 g0 g1 g2 g3 g4 f0 f1 f2 f3 f4
      change bodyPost _ _ _ _ _ (setFive w7 (w.heap.size + 1) y.t y.m y.r y.s y.k)
      have SF := StateAt.five HX9.out.res y.t y.m y.r y.s y.k
      have BF := HX9.out.ls.below.trans (below_five (B := w.heap.size) (w := w7) (b := w.heap.size + 1) (by omega) y.t y.m y.r y.s y.k)
      generalize setFive w7 (w.heap.size + 1) y.t y.m y.r y.s y.k = wz at SF BF ⊢
      have e0 := SF.c0; have e1 := SF.c1; have e2 := SF.c2; have e3 := SF.c3; have e4 := SF.c4
      exact bodyPost_ret (v := ssVal y) (by simp [ssVal, results, Tryz.results72, go_sem, e0, e1, e2, e3, e4]) rfl ⟨rfl, BF⟩
    · have bZ := (Below.refl y2.heap.size y2).alloc (Nat.le_refl _) (.cells #[.int .i64 0, .int .i64 0, .int .i64 0, .int .i64 0, .int .i64 0] 30)
      have HX3 := Lib.hid (HX2.out.call bZ)
      have M3 := Lib.hid (M2.out.below bZ M2.out.lt)
      have TZ3 := Lib.hid (StateAt.new (T := 30) (t := 0) (m := 0) (r := 0) (s := 0) (k := 0) y2)
      have HY := Lib.hid (show w.heap.size + 1 < y2.heap.size from StateAt.lt HX2.out.res)
      have HYM := Lib.hid (M2.out.lt)
      have hqA := (show _ from (⟨HX3.out.st.all.1, HX3.out.st.all.2.1, HX3.out.st.all.2.2.1, HX3.out.st.all.2.2.2.1, HX3.out.st.all.2.2.2.2, M3.out.in_.c0, M3.out.in_.c1⟩ : (y2.alloc (.cells #[.int .i64 0, .int .i64 0, .int .i64 0, .int .i64 0, .int .i64 0] 30)).cell? ⟨w.heap.size, 0, none⟩ = some (.int .i64 t) ∧ (y2.alloc (.cells #[.int .i64 0, .int .i64 0, .int .i64 0, .int .i64 0, .int .i64 0] 30)).cell? ⟨w.heap.size, 1, none⟩ = some (.int .i64 (j : Int)) ∧ (y2.alloc (.cells #[.int .i64 0, .int .i64 0, .int .i64 0, .int .i64 0, .int .i64 0] 30)).cell? ⟨w.heap.size, 2, none⟩ = some (.int .i64 r0) ∧ (y2.alloc (.cells #[.int .i64 0, .int .i64 0, .int .i64 0, .int .i64 0, .int .i64 0] 30)).cell? ⟨w.heap.size, 3, none⟩ = some (.int .i64 s0) ∧ (y2.alloc (.cells #[.int .i64 0, .int .i64 0, .int .i64 0, .int .i64 0, .int .i64 0] 30)).cell? ⟨w.heap.size, 4, none⟩ = some (.int .i64 k) ∧ (y2.alloc (.cells #[.int .i64 0, .int .i64 0, .int .i64 0, .int .i64 0, .int .i64 0] 30)).cell? ⟨M, 0, none⟩ = some (.int .i64 c.md.rounds) ∧ (y2.alloc (.cells #[.int .i64 0, .int .i64 0, .int .i64 0, .int .i64 0, .int .i64 0] 30)).cell? ⟨M, 1, none⟩ = some (.int .i64 c.md.slots)))
      go_simp
      refine hK.out _ _ ?_ (fun hHeld => ?_)
      · exact hqA
      clear hK K hq bZ HX2 M2
      obtain ⟨Y, hY⟩ : ∃ Y, Y = y2.heap.size := ⟨_, rfl⟩
      rw [← hY] at TZ3 HY HYM ⊢
      clear hY
      generalize y2.alloc (.cells #[.int .i64 0, .int .i64 0, .int .i64 0, .int .i64 0, .int .i64 0] 30) = y3 at HX3 M3 TZ3 hqA hHeld ⊢
      have hq := hqA
      clear hqA
      try simp only [pa, pb, pc, Act.put, pe, pf, pg]
      refine wpAnyH_ready (rs := [9]) (by kernel_rfl) (by simp) (AllReadyH.cons rfl (fun K hK => ?_) AllReadyH.nil)
      go_simp
      refine (HAD.out _).mono ?_
      rintro e y4 ⟨rfl, b4⟩
      have HX4 := Lib.hid (HX3.out.call b4)
      have M4 := Lib.hid (M3.out.below b4 M3.out.lt)
      have TZ4 := Lib.hid (StateAt.below TZ3.out b4 (StateAt.lt TZ3.out))
      clear b4 hq HX3 M3 TZ3
      have hq := (show _ from (⟨HX4.out.st.all.1, HX4.out.st.all.2.1, HX4.out.st.all.2.2.1, HX4.out.st.all.2.2.2.1, HX4.out.st.all.2.2.2.2, M4.out.in_.c0, M4.out.in_.c1⟩ : y4.cell? ⟨w.heap.size, 0, none⟩ = some (.int .i64 t) ∧ y4.cell? ⟨w.heap.size, 1, none⟩ = some (.int .i64 (j : Int)) ∧ y4.cell? ⟨w.heap.size, 2, none⟩ = some (.int .i64 r0) ∧ y4.cell? ⟨w.heap.size, 3, none⟩ = some (.int .i64 s0) ∧ y4.cell? ⟨w.heap.size, 4, none⟩ = some (.int .i64 k) ∧ y4.cell? ⟨M, 0, none⟩ = some (.int .i64 c.md.rounds) ∧ y4.cell? ⟨M, 1, none⟩ = some (.int .i64 c.md.slots)))
      go_wp2_with fail
      refine hK.out _ _ ?_ (fun hHeld => ?_)
      · exact hq
      clear hK K
      try simp only [pa, pb, pc, Act.put, pe, pf, pg]
      refine tk (i := 10) (v := ?_) rfl (Or.inl ⟨by rfl, ?_⟩) (by assumption) ?_
      rotate_left
      · (intro w hSw; (try dsimp only at hSw); go_simp; (try with_reducible rfl))
      try simp only [pa, pb, pc, Act.put, pe, pf, pg]
      refine tk (i := 11) (v := ?_) rfl (Or.inl ⟨by rfl, ?_⟩) (by assumption) ?_
      rotate_left
      · (intro w hSw; (try dsimp only at hSw); go_simp; (try with_reducible rfl))
      try simp only [pa, pb, pc, Act.put, pe, pf, pg]
      refine tk (i := 12) (v := ?_) rfl (Or.inl ⟨by rfl, ?_⟩) (by assumption) ?_
      rotate_left
      · (intro w hSw; (try dsimp only at hSw); go_simp; (try with_reducible rfl))
      try simp only [pa, pb, pc, Act.put, pe, pf, pg]
      have gF := grown_fiveL y4 Y y.t y.m y.r y.s y.k
      have HX9 := Lib.hid (HX4.out.other HY.out gF)
      have M9 := Lib.hid (M4.out.grown gF (fun e => by injection e with e; have := HYM.out; omega))
      have TY := Lib.hid (StateAt.five TZ4.out y.t y.m y.r y.s y.k)
      have hqB := (show _ from (⟨HX9.out.st.all.1, HX9.out.st.all.2.1, HX9.out.st.all.2.2.1, HX9.out.st.all.2.2.2.1, HX9.out.st.all.2.2.2.2, M9.out.in_.c0, M9.out.in_.c1⟩ : (((((y4.setCell ⟨Y, 0, none⟩ (.int .i64 y.t)).setCell ⟨Y, 1, none⟩ (.int .i64 y.m)).setCell ⟨Y, 2, none⟩ (.int .i64 y.r)).setCell ⟨Y, 3, none⟩ (.int .i64 y.s)).setCell ⟨Y, 4, none⟩ (.int .i64 y.k)).cell? ⟨w.heap.size, 0, none⟩ = some (.int .i64 t) ∧ (((((y4.setCell ⟨Y, 0, none⟩ (.int .i64 y.t)).setCell ⟨Y, 1, none⟩ (.int .i64 y.m)).setCell ⟨Y, 2, none⟩ (.int .i64 y.r)).setCell ⟨Y, 3, none⟩ (.int .i64 y.s)).setCell ⟨Y, 4, none⟩ (.int .i64 y.k)).cell? ⟨w.heap.size, 1, none⟩ = some (.int .i64 (j : Int)) ∧ (((((y4.setCell ⟨Y, 0, none⟩ (.int .i64 y.t)).setCell ⟨Y, 1, none⟩ (.int .i64 y.m)).setCell ⟨Y, 2, none⟩ (.int .i64 y.r)).setCell ⟨Y, 3, none⟩ (.int .i64 y.s)).setCell ⟨Y, 4, none⟩ (.int .i64 y.k)).cell? ⟨w.heap.size, 2, none⟩ = some (.int .i64 r0) ∧ (((((y4.setCell ⟨Y, 0, none⟩ (.int .i64 y.t)).setCell ⟨Y, 1, none⟩ (.int .i64 y.m)).setCell ⟨Y, 2, none⟩ (.int .i64 y.r)).setCell ⟨Y, 3, none⟩ (.int .i64 y.s)).setCell ⟨Y, 4, none⟩ (.int .i64 y.k)).cell? ⟨w.heap.size, 3, none⟩ = some (.int .i64 s0) ∧ (((((y4.setCell ⟨Y, 0, none⟩ (.int .i64 y.t)).setCell ⟨Y, 1, none⟩ (.int .i64 y.m)).setCell ⟨Y, 2, none⟩ (.int .i64 y.r)).setCell ⟨Y, 3, none⟩ (.int .i64 y.s)).setCell ⟨Y, 4, none⟩ (.int .i64 y.k)).cell? ⟨w.heap.size, 4, none⟩ = some (.int .i64 k) ∧ (((((y4.setCell ⟨Y, 0, none⟩ (.int .i64 y.t)).setCell ⟨Y, 1, none⟩ (.int .i64 y.m)).setCell ⟨Y, 2, none⟩ (.int .i64 y.r)).setCell ⟨Y, 3, none⟩ (.int .i64 y.s)).setCell ⟨Y, 4, none⟩ (.int .i64 y.k)).cell? ⟨M, 0, none⟩ = some (.int .i64 c.md.rounds) ∧ (((((y4.setCell ⟨Y, 0, none⟩ (.int .i64 y.t)).setCell ⟨Y, 1, none⟩ (.int .i64 y.m)).setCell ⟨Y, 2, none⟩ (.int .i64 y.r)).setCell ⟨Y, 3, none⟩ (.int .i64 y.s)).setCell ⟨Y, 4, none⟩ (.int .i64 y.k)).cell? ⟨M, 1, none⟩ = some (.int .i64 c.md.slots)))
      have z0 := TZ4.out.c0; have z1 := TZ4.out.c1; have z2 := TZ4.out.c2; have z3 := TZ4.out.c3; have z4 := TZ4.out.c4
      have k0 := TZ4.out.f 0; have k1 := TZ4.out.f 1; have k2 := TZ4.out.f 2; have k3 := TZ4.out.f 3; have k4 := TZ4.out.f 4
      refine wpAnyH_ready (rs := [14]) (by kernel_rfl) (by simp) (AllReadyH.cons rfl (fun K hK => ?_) AllReadyH.nil)
      go_simp
      refine hK.out _ _ ?_ (fun hHeld => ?_)
      · exact hqB
      clear hK K z0 z1 z2 z3 z4 k0 k1 k2 k3 k4 hq gF
      try simp only [pa, pb, pc, Act.put, pe, pf, pg]
      refine tk (i := 15) (v := ?_) rfl (Or.inl ⟨by rfl, ?_⟩) (by assumption) ?_
      rotate_left
      · (intro w hSw; (try dsimp only at hSw); go_simp; (try with_reducible rfl))
      try simp only [pa, pb, pc, Act.put, pe, pf, pg]
      refine wpAnyH_done (by kernel_rfl) ?_ _
      clear hHeld hqB
      rw [show (((((y4.setCell ⟨Y, 0, none⟩ (.int .i64 y.t)).setCell ⟨Y, 1, none⟩ (.int .i64 y.m)).setCell ⟨Y, 2, none⟩ (.int .i64 y.r)).setCell ⟨Y, 3, none⟩ (.int .i64 y.s)).setCell ⟨Y, 4, none⟩ (.int .i64 y.k)) = (setFive y4 Y y.t y.m y.r y.s y.k) from rfl]
      generalize (setFive y4 Y y.t y.m y.r y.s y.k) = w7 at HX9 M9 TY ⊢
      have t0 := TY.out.c0; have t1 := TY.out.c1; have t2 := TY.out.c2; have t3 := TY.out.c3; have t4 := TY.out.c4
      have g0 := HX9.out.res.c0; have g1 := HX9.out.res.c1; have g2 := HX9.out.res.c2; have g3 := HX9.out.res.c3; have g4 := HX9.out.res.c4
      have f0 := HX9.out.res.f 0; have f1 := HX9.out.res.f 1; have f2 := HX9.out.res.f 2; have f3 := HX9.out.res.f 3; have f4 := HX9.out.res.f 4
      go_wp2_with fail
      clear t0 t1 t2 t3 t4 g0 g1 g2 g3 g4 f0 f1 f2 f3 f4
      change bodyPost _ _ _ _ _ (setFive w7 (w.heap.size + 1) y.t y.m y.r y.s y.k)
      have SF := StateAt.five HX9.out.res y.t y.m y.r y.s y.k
      have BF := HX9.out.ls.below.trans (below_five (B := w.heap.size) (w := w7) (b := w.heap.size + 1) (by omega) y.t y.m y.r y.s y.k)
      generalize setFive w7 (w.heap.size + 1) y.t y.m y.r y.s y.k = wz at SF BF ⊢
      have e0 := SF.c0; have e1 := SF.c1; have e2 := SF.c2; have e3 := SF.c3; have e4 := SF.c4
      exact bodyPost_ret (v := ssVal y) (by simp [ssVal, results, Tryz.results72, go_sem, e0, e1, e2, e3, e4]) rfl ⟨rfl, BF⟩
  · have bZ := (Below.refl y1.heap.size y1).alloc (Nat.le_refl _) (.cells #[.int .i64 0, .int .i64 0, .int .i64 0, .int .i64 0, .int .i64 0] 30)
    have HX2 := Lib.hid (HX1.out.call bZ)
    have M2 := Lib.hid (M1.out.below bZ M1.out.lt)
    have TZ2 := Lib.hid (StateAt.new (T := 30) (t := 0) (m := 0) (r := 0) (s := 0) (k := 0) y1)
    have HY := Lib.hid (show w.heap.size + 1 < y1.heap.size from StateAt.lt HX1.out.res)
    have HYM := Lib.hid (M1.out.lt)
    have hqA := (show _ from (⟨HX2.out.st.all.1, HX2.out.st.all.2.1, HX2.out.st.all.2.2.1, HX2.out.st.all.2.2.2.1, HX2.out.st.all.2.2.2.2, M2.out.in_.c0, M2.out.in_.c1⟩ : (y1.alloc (.cells #[.int .i64 0, .int .i64 0, .int .i64 0, .int .i64 0, .int .i64 0] 30)).cell? ⟨w.heap.size, 0, none⟩ = some (.int .i64 t) ∧ (y1.alloc (.cells #[.int .i64 0, .int .i64 0, .int .i64 0, .int .i64 0, .int .i64 0] 30)).cell? ⟨w.heap.size, 1, none⟩ = some (.int .i64 (j : Int)) ∧ (y1.alloc (.cells #[.int .i64 0, .int .i64 0, .int .i64 0, .int .i64 0, .int .i64 0] 30)).cell? ⟨w.heap.size, 2, none⟩ = some (.int .i64 r0) ∧ (y1.alloc (.cells #[.int .i64 0, .int .i64 0, .int .i64 0, .int .i64 0, .int .i64 0] 30)).cell? ⟨w.heap.size, 3, none⟩ = some (.int .i64 s0) ∧ (y1.alloc (.cells #[.int .i64 0, .int .i64 0, .int .i64 0, .int .i64 0, .int .i64 0] 30)).cell? ⟨w.heap.size, 4, none⟩ = some (.int .i64 k) ∧ (y1.alloc (.cells #[.int .i64 0, .int .i64 0, .int .i64 0, .int .i64 0, .int .i64 0] 30)).cell? ⟨M, 0, none⟩ = some (.int .i64 c.md.rounds) ∧ (y1.alloc (.cells #[.int .i64 0, .int .i64 0, .int .i64 0, .int .i64 0, .int .i64 0] 30)).cell? ⟨M, 1, none⟩ = some (.int .i64 c.md.slots)))
    go_simp
    refine hK.out _ _ ?_ (fun hHeld => ?_)
    · exact hqA
    clear hK K hq bZ HX1 M1
    obtain ⟨Y, hY⟩ : ∃ Y, Y = y1.heap.size := ⟨_, rfl⟩
    rw [← hY] at TZ2 HY HYM ⊢
    clear hY
    generalize y1.alloc (.cells #[.int .i64 0, .int .i64 0, .int .i64 0, .int .i64 0, .int .i64 0] 30) = y2 at HX2 M2 TZ2 hqA hHeld ⊢
    have hq := hqA
    clear hqA
    try simp only [pa, pb, pc, Act.put, pe, pf, pg]
    refine wpAnyH_ready (rs := [3]) (by kernel_rfl) (by simp) (AllReadyH.cons rfl (fun K hK => ?_) AllReadyH.nil)
    go_simp
    refine (HDS.out _ HX2.out.lk HX2.out.ls.rd).mono ?_
    rintro e y3 ⟨rfl, b3⟩
    have HX3 := Lib.hid (HX2.out.call b3)
    have M3 := Lib.hid (M2.out.below b3 M2.out.lt)
    have TZ3 := Lib.hid (StateAt.below TZ2.out b3 (StateAt.lt TZ2.out))
    clear b3 hq HX2 M2 TZ2
    have hq := (show _ from (⟨HX3.out.st.all.1, HX3.out.st.all.2.1, HX3.out.st.all.2.2.1, HX3.out.st.all.2.2.2.1, HX3.out.st.all.2.2.2.2, M3.out.in_.c0, M3.out.in_.c1⟩ : y3.cell? ⟨w.heap.size, 0, none⟩ = some (.int .i64 t) ∧ y3.cell? ⟨w.heap.size, 1, none⟩ = some (.int .i64 (j : Int)) ∧ y3.cell? ⟨w.heap.size, 2, none⟩ = some (.int .i64 r0) ∧ y3.cell? ⟨w.heap.size, 3, none⟩ = some (.int .i64 s0) ∧ y3.cell? ⟨w.heap.size, 4, none⟩ = some (.int .i64 k) ∧ y3.cell? ⟨M, 0, none⟩ = some (.int .i64 c.md.rounds) ∧ y3.cell? ⟨M, 1, none⟩ = some (.int .i64 c.md.slots)))
    go_wp2_with fail
    refine hK.out _ _ ?_ (fun hHeld => ?_)
    · exact hq
    clear hK K
    try simp only [pa, pb, pc, Act.put, pe, pf, pg]
    refine tk (i := 4) (v := .int .i64 D.dur) rfl (Or.inl ⟨by rfl, fun w hSw => by rfl⟩) (by assumption) ?_
    try simp only [pa, pb, pc, Act.put, pe, pf, pg]
    refine wpAnyH_ready (rs := [9]) (by kernel_rfl) (by simp) (AllReadyH.cons rfl (fun K hK => ?_) AllReadyH.nil)
    go_simp
    refine (HAD.out _).mono ?_
    rintro e y4 ⟨rfl, b4⟩
    have HX4 := Lib.hid (HX3.out.call b4)
    have M4 := Lib.hid (M3.out.below b4 M3.out.lt)
    have TZ4 := Lib.hid (StateAt.below TZ3.out b4 (StateAt.lt TZ3.out))
    clear b4 hq HX3 M3 TZ3
    have hq := (show _ from (⟨HX4.out.st.all.1, HX4.out.st.all.2.1, HX4.out.st.all.2.2.1, HX4.out.st.all.2.2.2.1, HX4.out.st.all.2.2.2.2, M4.out.in_.c0, M4.out.in_.c1⟩ : y4.cell? ⟨w.heap.size, 0, none⟩ = some (.int .i64 t) ∧ y4.cell? ⟨w.heap.size, 1, none⟩ = some (.int .i64 (j : Int)) ∧ y4.cell? ⟨w.heap.size, 2, none⟩ = some (.int .i64 r0) ∧ y4.cell? ⟨w.heap.size, 3, none⟩ = some (.int .i64 s0) ∧ y4.cell? ⟨w.heap.size, 4, none⟩ = some (.int .i64 k) ∧ y4.cell? ⟨M, 0, none⟩ = some (.int .i64 c.md.rounds) ∧ y4.cell? ⟨M, 1, none⟩ = some (.int .i64 c.md.slots)))
    go_wp2_with fail
    refine hK.out _ _ ?_ (fun hHeld => ?_)
    · exact hq
    clear hK K
    try simp only [pa, pb, pc, Act.put, pe, pf, pg]
    refine tk (i := 10) (v := ?_) rfl (Or.inl ⟨by rfl, ?_⟩) (by assumption) ?_
    rotate_left
    · (intro w hSw; (try dsimp only at hSw); go_simp; (try with_reducible rfl))
    try simp only [pa, pb, pc, Act.put, pe, pf, pg]
    refine tk (i := 11) (v := ?_) rfl (Or.inl ⟨by rfl, ?_⟩) (by assumption) ?_
    rotate_left
    · (intro w hSw; (try dsimp only at hSw); go_simp; (try with_reducible rfl))
    try simp only [pa, pb, pc, Act.put, pe, pf, pg]
    refine tk (i := 12) (v := ?_) rfl (Or.inl ⟨by rfl, ?_⟩) (by assumption) ?_
    rotate_left
    · (intro w hSw; (try dsimp only at hSw); go_simp; (try with_reducible rfl))
    try simp only [pa, pb, pc, Act.put, pe, pf, pg]
    have gF := grown_fiveL y4 Y y.t y.m y.r y.s y.k
    have HX9 := Lib.hid (HX4.out.other HY.out gF)
    have M9 := Lib.hid (M4.out.grown gF (fun e => by injection e with e; have := HYM.out; omega))
    have TY := Lib.hid (StateAt.five TZ4.out y.t y.m y.r y.s y.k)
    have hqB := (show _ from (⟨HX9.out.st.all.1, HX9.out.st.all.2.1, HX9.out.st.all.2.2.1, HX9.out.st.all.2.2.2.1, HX9.out.st.all.2.2.2.2, M9.out.in_.c0, M9.out.in_.c1⟩ : (((((y4.setCell ⟨Y, 0, none⟩ (.int .i64 y.t)).setCell ⟨Y, 1, none⟩ (.int .i64 y.m)).setCell ⟨Y, 2, none⟩ (.int .i64 y.r)).setCell ⟨Y, 3, none⟩ (.int .i64 y.s)).setCell ⟨Y, 4, none⟩ (.int .i64 y.k)).cell? ⟨w.heap.size, 0, none⟩ = some (.int .i64 t) ∧ (((((y4.setCell ⟨Y, 0, none⟩ (.int .i64 y.t)).setCell ⟨Y, 1, none⟩ (.int .i64 y.m)).setCell ⟨Y, 2, none⟩ (.int .i64 y.r)).setCell ⟨Y, 3, none⟩ (.int .i64 y.s)).setCell ⟨Y, 4, none⟩ (.int .i64 y.k)).cell? ⟨w.heap.size, 1, none⟩ = some (.int .i64 (j : Int)) ∧ (((((y4.setCell ⟨Y, 0, none⟩ (.int .i64 y.t)).setCell ⟨Y, 1, none⟩ (.int .i64 y.m)).setCell ⟨Y, 2, none⟩ (.int .i64 y.r)).setCell ⟨Y, 3, none⟩ (.int .i64 y.s)).setCell ⟨Y, 4, none⟩ (.int .i64 y.k)).cell? ⟨w.heap.size, 2, none⟩ = some (.int .i64 r0) ∧ (((((y4.setCell ⟨Y, 0, none⟩ (.int .i64 y.t)).setCell ⟨Y, 1, none⟩ (.int .i64 y.m)).setCell ⟨Y, 2, none⟩ (.int .i64 y.r)).setCell ⟨Y, 3, none⟩ (.int .i64 y.s)).setCell ⟨Y, 4, none⟩ (.int .i64 y.k)).cell? ⟨w.heap.size, 3, none⟩ = some (.int .i64 s0) ∧ (((((y4.setCell ⟨Y, 0, none⟩ (.int .i64 y.t)).setCell ⟨Y, 1, none⟩ (.int .i64 y.m)).setCell ⟨Y, 2, none⟩ (.int .i64 y.r)).setCell ⟨Y, 3, none⟩ (.int .i64 y.s)).setCell ⟨Y, 4, none⟩ (.int .i64 y.k)).cell? ⟨w.heap.size, 4, none⟩ = some (.int .i64 k) ∧ (((((y4.setCell ⟨Y, 0, none⟩ (.int .i64 y.t)).setCell ⟨Y, 1, none⟩ (.int .i64 y.m)).setCell ⟨Y, 2, none⟩ (.int .i64 y.r)).setCell ⟨Y, 3, none⟩ (.int .i64 y.s)).setCell ⟨Y, 4, none⟩ (.int .i64 y.k)).cell? ⟨M, 0, none⟩ = some (.int .i64 c.md.rounds) ∧ (((((y4.setCell ⟨Y, 0, none⟩ (.int .i64 y.t)).setCell ⟨Y, 1, none⟩ (.int .i64 y.m)).setCell ⟨Y, 2, none⟩ (.int .i64 y.r)).setCell ⟨Y, 3, none⟩ (.int .i64 y.s)).setCell ⟨Y, 4, none⟩ (.int .i64 y.k)).cell? ⟨M, 1, none⟩ = some (.int .i64 c.md.slots)))
    have z0 := TZ4.out.c0; have z1 := TZ4.out.c1; have z2 := TZ4.out.c2; have z3 := TZ4.out.c3; have z4 := TZ4.out.c4
    have k0 := TZ4.out.f 0; have k1 := TZ4.out.f 1; have k2 := TZ4.out.f 2; have k3 := TZ4.out.f 3; have k4 := TZ4.out.f 4
    refine wpAnyH_ready (rs := [14]) (by kernel_rfl) (by simp) (AllReadyH.cons rfl (fun K hK => ?_) AllReadyH.nil)
    go_simp
    refine hK.out _ _ ?_ (fun hHeld => ?_)
    · exact hqB
    clear hK K z0 z1 z2 z3 z4 k0 k1 k2 k3 k4 hq gF
    try simp only [pa, pb, pc, Act.put, pe, pf, pg]
    refine tk (i := 15) (v := ?_) rfl (Or.inl ⟨by rfl, ?_⟩) (by assumption) ?_
    rotate_left
    · (intro w hSw; (try dsimp only at hSw); go_simp; (try with_reducible rfl))
    try simp only [pa, pb, pc, Act.put, pe, pf, pg]
    refine wpAnyH_done (by kernel_rfl) ?_ _
    clear hHeld hqB
    rw [show (((((y4.setCell ⟨Y, 0, none⟩ (.int .i64 y.t)).setCell ⟨Y, 1, none⟩ (.int .i64 y.m)).setCell ⟨Y, 2, none⟩ (.int .i64 y.r)).setCell ⟨Y, 3, none⟩ (.int .i64 y.s)).setCell ⟨Y, 4, none⟩ (.int .i64 y.k)) = (setFive y4 Y y.t y.m y.r y.s y.k) from rfl]
    generalize (setFive y4 Y y.t y.m y.r y.s y.k) = w7 at HX9 M9 TY ⊢
    have t0 := TY.out.c0; have t1 := TY.out.c1; have t2 := TY.out.c2; have t3 := TY.out.c3; have t4 := TY.out.c4
    have g0 := HX9.out.res.c0; have g1 := HX9.out.res.c1; have g2 := HX9.out.res.c2; have g3 := HX9.out.res.c3; have g4 := HX9.out.res.c4
    have f0 := HX9.out.res.f 0; have f1 := HX9.out.res.f 1; have f2 := HX9.out.res.f 2; have f3 := HX9.out.res.f 3; have f4 := HX9.out.res.f 4
    go_wp2_with fail
    clear t0 t1 t2 t3 t4 g0 g1 g2 g3 g4 f0 f1 f2 f3 f4
    change bodyPost _ _ _ _ _ (setFive w7 (w.heap.size + 1) y.t y.m y.r y.s y.k)
    have SF := StateAt.five HX9.out.res y.t y.m y.r y.s y.k
    have BF := HX9.out.ls.below.trans (below_five (B := w.heap.size) (w := w7) (b := w.heap.size + 1) (by omega) y.t y.m y.r y.s y.k)
    generalize setFive w7 (w.heap.size + 1) y.t y.m y.r y.s y.k = wz at SF BF ⊢
    have e0 := SF.c0; have e1 := SF.c1; have e2 := SF.c2; have e3 := SF.c3; have e4 := SF.c4
    exact bodyPost_ret (v := ssVal y) (by simp [ssVal, results, Tryz.results72, go_sem, e0, e1, e2, e3, e4]) rfl ⟨rfl, BF⟩
end

section
open Go.RowKit
theorem grown_low' {w W W' : World} {g : Option Nat} (h : Below w.heap.size w W) (k : W.grownBy W' g) : w.grownBy W' g := ⟨k.os.trans h.os, k.tape.trans h.tape, k.output.trans h.output, Nat.le_trans h.size k.size, fun i hi hne => (k.block i (Nat.lt_of_lt_of_le hi h.size) hne).trans (h.block i hi)⟩
def GivesInt (w0 w : World) (b : Nat) (v : Mv) (z : Int) (e : Ending) (w' : World) : Prop := e = .returned (.int .i64 z) ∧ (∃ sv rows, LuSt w0 w' b v sv rows) ∧ w.grownBy w' (some b)
theorem LuAny.parts {w0 W : World} {b : Nat} {v : Mv} (h : LuAny w0 W b v) : RdMe w0 v ∧ Below w0.heap.size w0 W ∧ w0.heap.size ≤ b ∧ ∃ d sv, LkAt W b v d 0 sv := by
  rcases h with ⟨h1, h2, h3, h4⟩ | ⟨sv, rows, h⟩
  · exact ⟨h2, h3, h4, _, _, h1⟩
  · exact ⟨h.rd0, h.be, h.hb, _, _, h.lk⟩
theorem LuAny.call {w0 W W' : World} {b : Nat} {v : Mv} (h : LuAny w0 W b v) (hb : Below W.heap.size W W') : LuAny w0 W' b v := by
  rcases h with ⟨h1, h2, h3, h4⟩ | ⟨sv, rows, h⟩
  · exact .inl ⟨h1.below hb h1.lt, h2, h3.trans (hb.mono h3.size), h4⟩
  · exact .inr ⟨sv, rows, h.call hb⟩
set_option linter.unusedSimpArgs false in
set_option maxRecDepth 100000 in
set_option maxHeartbeats 2000000 in
theorem luStart_any {b : Nat} {v : Mv} {x : Ss} {j R S r s : Nat} (w0 w : World) (h : LuAny w0 w b v) (hw : Well v.me) (hy : Lies v.me x j R S r s) :
    Calls Tryz.prog 78 #[.pointer (some ⟨b, 0, none⟩), ssVal x] w (GivesInt w0 w b v (startOf v.me x)) := by
  have hjc : j < v.cs.length := by have e : v.me.modes.length = v.cs.length := mds_len v.cs; have := hy.hj; omega
  have hbx := (Below.refl w.heap.size w).alloc (Nat.le_refl _) (.cells #[.int .i64 x.t, .int .i64 x.m, .int .i64 x.r, .int .i64 x.s, .int .i64 x.k] 30)
  have HLU := Lib.hid (h.call hbx)
  have HST := Lib.hid (StateAt.new (T := 30) (t := x.t) (m := x.m) (r := x.r) (s := x.s) (k := x.k) w)
  have HB := Lib.hid (show w.heap.size ≠ b from by obtain ⟨-, -, -, d, sv, hl⟩ := h.parts; have := hl.lt; omega)
  have HBX := Lib.hid hbx
  have HSO := Lib.hid (fun W (hW : LuAny w0 W b v) => startsOf_any w0 W hW hw hjc)
  have HPL := Lib.hid (fun W d sv hl hW => place_any (b := b) (d := d) (sv := sv) (q := r * S + s) W hl hW hy rfl)
  have hlt := hy.lt
  have he := hy.hm
  rw [hy.start]
  change r * S + s < (inMode v.e j).length at hlt
  change Calls _ _ _ _ (GivesInt w0 w b v (dursum ((inMode v.e j).take (r * S + s))))
  generalize r * S + s = q at HPL hlt ⊢
  have HAT := Lib.hid (startsL_at (L := inMode v.e j) (p := q) (by omega))
  have hln := startsL_len (inMode v.e j)
  have hlt2 : q < (startsL (inMode v.e j)).length := by omega
  generalize dursum ((inMode v.e j).take q) = z at HAT ⊢
  unfold GivesSt at HSO
  generalize startsL (inMode v.e j) = A at HSO HAT hlt2
  clear h hbx hw hy hjc hln hlt
  obtain ⟨t, m, r0, s0, k⟩ := x
  dsimp only at he
  subst he
  unfold ssVal at HPL ⊢
  dsimp only at HPL HST
  go_enter Tryz.func78, Tryz.ntmps78
  go_upto_region 1 with fail
  dsimp only at HLU HBX
  generalize w.alloc (.cells #[.int .i64 t, .int .i64 (j : Int), .int .i64 r0, .int .i64 s0, .int .i64 k] 30) = w1 at HLU HST HBX ⊢
  have HL1 := Lib.hid (HLU.out.call (Below.drew (Below.refl w1.heap.size w1)))
  have HT1 := Lib.hid (StateAt.below HST.out (Below.drew (Below.refl w1.heap.size w1)) (StateAt.lt HST.out))
  have HB1 := Lib.hid (below_two HBX.out (Below.drew (Below.refl w1.heap.size w1)))
  have hq : w1.drew.cell? ⟨w.heap.size, 0, none⟩ = some (.int .i64 t) ∧ w1.drew.cell? ⟨w.heap.size, 1, none⟩ = some (.int .i64 (j : Int)) ∧ w1.drew.cell? ⟨w.heap.size, 2, none⟩ = some (.int .i64 r0) ∧ w1.drew.cell? ⟨w.heap.size, 3, none⟩ = some (.int .i64 s0) ∧ w1.drew.cell? ⟨w.heap.size, 4, none⟩ = some (.int .i64 k) := ⟨HT1.out.c0, HT1.out.c1, HT1.out.c2, HT1.out.c3, HT1.out.c4⟩
  clear HLU HST HBX
  refine wp_region_held_drew (S := fun w' => w'.cell? ⟨w.heap.size, 0, none⟩ = some (.int .i64 t) ∧ w'.cell? ⟨w.heap.size, 1, none⟩ = some (.int .i64 (j : Int)) ∧ w'.cell? ⟨w.heap.size, 2, none⟩ = some (.int .i64 r0) ∧ w'.cell? ⟨w.heap.size, 3, none⟩ = some (.int .i64 s0) ∧ w'.cell? ⟨w.heap.size, 4, none⟩ = some (.int .i64 k)) (by kernel_rfl) (hq) (fun hHeld => ?_)
  generalize w1.drew = wd at HL1 HT1 HB1 hq hHeld ⊢
  refine tk (i := 0) (v := ?_) rfl (Or.inl ⟨by rfl, ?_⟩) (by assumption) ?_
  rotate_left
  · (intro w hSw; (try dsimp only at hSw); go_simp; (try with_reducible rfl))
  try simp only [pa, pb, pc, Act.put, pe, pf, pg]
  refine tk (i := 1) (v := ?_) rfl (Or.inl ⟨by rfl, ?_⟩) (by assumption) ?_
  rotate_left
  · (intro w hSw; (try dsimp only at hSw); go_simp; (try with_reducible rfl))
  try simp only [pa, pb, pc, Act.put, pe, pf, pg]
  refine tk (i := 2) (v := ?_) rfl (Or.inl ⟨by rfl, ?_⟩) (by assumption) ?_
  rotate_left
  · (intro w hSw; (try dsimp only at hSw); go_simp; (try with_reducible rfl))
  try simp only [pa, pb, pc, Act.put, pe, pf, pg]
  refine tk (i := 4) (v := ?_) rfl (Or.inl ⟨by rfl, ?_⟩) (by assumption) ?_
  rotate_left
  · (intro w hSw; (try dsimp only at hSw); go_simp; (try with_reducible rfl))
  try simp only [pa, pb, pc, Act.put, pe, pf, pg]
  refine tk (i := 5) (v := ?_) rfl (Or.inl ⟨by rfl, ?_⟩) (by assumption) ?_
  rotate_left
  · (intro w hSw; (try dsimp only at hSw); go_simp; (try with_reducible rfl))
  try simp only [pa, pb, pc, Act.put, pe, pf, pg]
  refine wpAnyH_ready (rs := [3]) (by kernel_rfl) (by simp) (AllReadyH.cons rfl (fun K hK => ?_) AllReadyH.nil)
  go_simp
  refine (HSO.out _ HL1.out).mono ?_
  rintro e y2 ⟨ao, cc, sv, rows, rfl, ho, hs, hg⟩
  have HS2 := Lib.hid hs; have HO2 := Lib.hid ho
  have HT2 := Lib.hid (StateAt.grown HT1.out hg (fun e => HB.out (by injection e)))
  have HG2 := Lib.hid (grown_low' HB1.out hg)
  clear hs ho hg hq HL1 HT1 HB1
  have hq : y2.cell? ⟨w.heap.size, 0, none⟩ = some (.int .i64 t) ∧ y2.cell? ⟨w.heap.size, 1, none⟩ = some (.int .i64 (j : Int)) ∧ y2.cell? ⟨w.heap.size, 2, none⟩ = some (.int .i64 r0) ∧ y2.cell? ⟨w.heap.size, 3, none⟩ = some (.int .i64 s0) ∧ y2.cell? ⟨w.heap.size, 4, none⟩ = some (.int .i64 k) := ⟨HT2.out.c0, HT2.out.c1, HT2.out.c2, HT2.out.c3, HT2.out.c4⟩
  go_wp2_with fail
  refine hK.out _ _ ?_ (fun hHeld => ?_)
  · exact hq
  clear hK K
  try simp only [pa, pb, pc, Act.put, pe, pf, pg]
  refine wpAnyH_ready (rs := [6]) (by kernel_rfl) (by simp) (AllReadyH.cons rfl (fun K hK => ?_) AllReadyH.nil)
  go_simp
  refine (HPL.out _ _ _ HS2.out.lk HS2.out.rd).mono ?_
  rintro e y3 ⟨rfl, b3⟩
  have HS3 := Lib.hid (HS2.out.call b3)
  have HT3 := Lib.hid (StateAt.below HT2.out b3 (StateAt.lt HT2.out))
  have HG3 := Lib.hid (grown_low HG2.out (b3.mono HG2.out.size))
  obtain ⟨ao2, c2, e2, -, r2⟩ := (HO2.out.below b3).get
  cases e2
  obtain ⟨g, off, e3, hx⟩ := r2.here (by omega)
  subst e3
  have hxq := hx q hlt2
  rw [HAT.out] at hxq
  clear b3 hq HS2 HT2 HG2 HO2 hx r2
  have hq : y3.cell? ⟨w.heap.size, 0, none⟩ = some (.int .i64 t) ∧ y3.cell? ⟨w.heap.size, 1, none⟩ = some (.int .i64 (j : Int)) ∧ y3.cell? ⟨w.heap.size, 2, none⟩ = some (.int .i64 r0) ∧ y3.cell? ⟨w.heap.size, 3, none⟩ = some (.int .i64 s0) ∧ y3.cell? ⟨w.heap.size, 4, none⟩ = some (.int .i64 k) := ⟨HT3.out.c0, HT3.out.c1, HT3.out.c2, HT3.out.c3, HT3.out.c4⟩
  go_wp2_with fail
  refine hK.out _ _ ?_ (fun hHeld => ?_)
  · exact hq
  clear hK K
  try simp only [pa, pb, pc, Act.put, pe, pf, pg]
  refine tk (i := 7) (v := ?_) rfl (Or.inl ⟨by rfl, ?_⟩) (by assumption) ?_
  rotate_left
  · (intro w hSw; (try dsimp only at hSw); go_simp; (try with_reducible rfl))
  try simp only [pa, pb, pc, Act.put, pe, pf, pg]
  refine wpAnyH_ready (rs := [8]) (by kernel_rfl) (by simp) (AllReadyH.cons rfl (fun K hK => ?_) AllReadyH.nil)
  go_simp
  clear hxq
  refine hK.out _ _ ?_ (fun hHeld => ?_)
  · exact hq
  clear hK K
  try simp only [pa, pb, pc, Act.put, pe, pf, pg]
  refine tk (i := 9) (v := ?_) rfl (Or.inl ⟨by rfl, ?_⟩) (by assumption) ?_
  rotate_left
  · (intro w hSw; (try dsimp only at hSw); go_simp; (try with_reducible rfl))
  try simp only [pa, pb, pc, Act.put, pe, pf, pg]
  refine wpAnyH_done (by kernel_rfl) ?_ _
  go_wp2_with fail
  go_ret
  exact ⟨rfl, ⟨_, _, HS3.out⟩, HG3.out⟩
set_option maxRecDepth 100000 in
set_option maxHeartbeats 2000000 in
theorem luCycle_any {b j : Nat} {v : Mv} (w0 w : World) (h : LuAny w0 w b v) (hw : Well v.me) (hj : j < v.cs.length) :
    Calls Tryz.prog 82 #[.pointer (some ⟨b, 0, none⟩), .int .i64 (j : Int)] w (GivesInt w0 w b v (dursum (inMode v.e j))) := by
  have HSO := Lib.hid (startsOf_any w0 w h hw hj)
  have hln := startsL_len (inMode v.e j)
  have HAT := Lib.hid (show (startsL (inMode v.e j)).getD (inMode v.e j).length 0 = dursum (inMode v.e j) from by rw [startsL_at (Nat.le_refl _), List.take_length])
  have hle : (inMode v.e j).length ≤ 120 := Nat.le_trans (inMode_le v.e j) (isSls_iff.1 hw.r4).1
  generalize dursum (inMode v.e j) = z at HAT ⊢
  unfold GivesSt at HSO
  generalize startsL (inMode v.e j) = A at HSO HAT hln
  generalize (inMode v.e j).length = n at HAT hln hle
  clear h hw hj
  rw [hln] at HSO
  go_enter Tryz.func82, Tryz.ntmps82
  go_wp2_with fail
  refine HSO.out.mono ?_
  rintro e w1 ⟨ao, c, sv, rows, rfl, ho, hs, hg⟩
  have HS := Lib.hid hs; have HG := Lib.hid hg
  obtain ⟨ao2, c2, e2, -, r2⟩ := ho.get
  obtain ⟨g, off, e3, hx⟩ := r2.here (by omega)
  have e4 : ao = some ⟨g, off, none⟩ := by injection e2 with h1; rw [h1, e3]
  subst e4
  have hxq := hx n (by omega)
  rw [HAT.out] at hxq
  clear hs hg ho e2 r2 hx e3 HSO
  go_wp2_with fail
  go_ret
  exact ⟨rfl, ⟨_, _, HS.out⟩, HG.out⟩
end

section
open Go.RowKit
theorem size_two {w : World} {o u : Obj} : ((w.alloc o).alloc u).heap.size = w.heap.size + 2 := by simp
set_option linter.unusedSimpArgs false in
set_option maxRecDepth 100000 in
set_option maxHeartbeats 2000000 in
theorem descriptorFor_any (v : Mv) (x : Ss) (w : World) (hr : RdMe w v) :
    Calls Tryz.prog 27 #[mvVal v, ssVal x] w fun e w' => e = .returned (.tuple #[dsVal (descriptorFor v.me x).1, .int .i64 (descriptorFor v.me x).2]) ∧ Below w.heap.size w w' := by
  have hx0 := Bs.start (x := x) hr
  have HX := Lib.hid (hx0.call ((Below.refl _ _).alloc (Nat.le_refl _) (.cells #[.int .i64 0, .int .i64 0, .int .i64 0, .int .i64 0, .bool false] 44)))
  have hz0 := DescAt.new (T := 44) (n := 0) (a := 0) (z := 0) (u := 0) (c := false) ((w.alloc (.cells #[.int .i64 v.id, .slice v.no v.n.length v.nc, .slice v.mo v.cs.length v.mc, .slice v.eo v.e.length v.ec] 28)).alloc (.cells #[.int .i64 x.t, .int .i64 x.m, .int .i64 x.r, .int .i64 x.s, .int .i64 x.k] 30))
  rw [size_two] at hz0
  have HZ := Lib.hid hz0
  clear hz0 hx0
  by_cases hc : codeLu v.me x = 0
  · obtain ⟨h1, h2⟩ := codeLu_yes hc
    have hw := medl_iff.1 h1
    obtain ⟨j, R, S, r, s, hy⟩ := belongs_get hw h2
    have HL := Lib.hid (fun W (hW : RdMe W v) => lookupOf_yes v x W hW hc)
    rw [show descriptorFor v.me x = (descOf v.me x, 0) from by unfold descriptorFor; rw [if_pos hc]]
    have HD := Lib.hid (fun b W hl hW => descriptor_any (b := b) (d := 0) (sv := .slice none 0 0) W hl hW hw hy)
    generalize descOf v.me x = y at HD ⊢
    clear hr hc h1 h2 hw hy
    unfold mvVal at HL ⊢
    unfold ssVal at HL HD ⊢
    go_enter Tryz.func27, Tryz.ntmps27
    go_upto_region 1 with fail
    generalize (((w.alloc (.cells #[.int .i64 v.id, .slice v.no v.n.length v.nc, .slice v.mo v.cs.length v.mc, .slice v.eo v.e.length v.ec] 28)).alloc (.cells #[.int .i64 x.t, .int .i64 x.m, .int .i64 x.r, .int .i64 x.s, .int .i64 x.k] 30)).alloc (.cells #[.int .i64 0, .int .i64 0, .int .i64 0, .int .i64 0, .bool false] 44)) = w1 at HX HZ ⊢
    obtain ⟨z0, z1, z2, z3⟩ := HX.out.m
    obtain ⟨y0, y1, y2, y3, y4⟩ := HX.out.s
    go_wp2_with fail
    refine (HL.out _ HX.out.bx.rd).mono ?_
    rintro e w2 ⟨b, rfl, hb, hl, b2⟩
    have HX2 := Lib.hid (HX.out.call b2)
    have HLK := Lib.hid hl
    have HZ1 := Lib.hid (HZ.out.below b2 HZ.out.lt)
    clear z0 z1 z2 z3 y0 y1 y2 y3 y4 hl hb b2 HX HZ HL
    obtain ⟨y0, y1, y2, y3, y4⟩ := HX2.out.s
    go_wp2_with fail
    refine (HD.out _ _ HLK.out HX2.out.bx.rd).mono ?_
    rintro e w3 ⟨rfl, b3⟩
    have HX3 := Lib.hid (HX2.out.call b3)
    have HZ2 := Lib.hid (HZ1.out.below b3 HZ1.out.lt)
    clear y0 y1 y2 y3 y4 b3 HX2 HZ1 HD HLK
    have g0 := HZ2.out.c0; have g1 := HZ2.out.c1; have g2 := HZ2.out.c2; have g3 := HZ2.out.c3; have g4 := HZ2.out.c4
    have f0 := HZ2.out.f 0; have f1 := HZ2.out.f 1; have f2 := HZ2.out.f 2; have f3 := HZ2.out.f 3; have f4 := HZ2.out.f 4
    try unfold dsVal
    go_wp2_with fail
    clear g0 g1 g2 g3 g4 f0 f1 f2 f3 f4
    change bodyPost _ _ _ _ _ (setDesc w3 (w.heap.size + 2) y.node y.kind y.size y.dur y.chg)
    have SF := HZ2.out.five y.node y.kind y.size y.dur y.chg
    have BF := HX3.out.bx.below.trans (below_desc (B := w.heap.size) (w := w3) (b := w.heap.size + 2) (by omega) y.node y.kind y.size y.dur y.chg)
    generalize (setDesc w3 (w.heap.size + 2) y.node y.kind y.size y.dur y.chg) = wz at SF BF ⊢
    have e0 := SF.c0; have e1 := SF.c1; have e2 := SF.c2; have e3 := SF.c3; have e4 := SF.c4
    exact bodyPost_ret (v := .tuple #[dsVal y, .int .i64 0]) (by simp [dsVal, ssVal, results, Tryz.results27, go_sem, e0, e1, e2, e3, e4]) rfl ⟨rfl, BF⟩
  · have HL := Lib.hid (fun W (hW : RdMe W v) => lookupOf_no v x W hW hc)
    rw [show descriptorFor v.me x = (Ds.zero, codeLu v.me x) from by unfold descriptorFor; rw [if_neg hc]]
    generalize codeLu v.me x = c at HL hc ⊢
    have hcb : (c != 0) = true := by simp [hc]
    clear hr hc
    unfold mvVal at HL ⊢
    unfold ssVal at HL ⊢
    go_enter Tryz.func27, Tryz.ntmps27
    go_upto_region 1 with fail
    generalize (((w.alloc (.cells #[.int .i64 v.id, .slice v.no v.n.length v.nc, .slice v.mo v.cs.length v.mc, .slice v.eo v.e.length v.ec] 28)).alloc (.cells #[.int .i64 x.t, .int .i64 x.m, .int .i64 x.r, .int .i64 x.s, .int .i64 x.k] 30)).alloc (.cells #[.int .i64 0, .int .i64 0, .int .i64 0, .int .i64 0, .bool false] 44)) = w1 at HX HZ ⊢
    obtain ⟨z0, z1, z2, z3⟩ := HX.out.m
    obtain ⟨y0, y1, y2, y3, y4⟩ := HX.out.s
    go_wp2_with fail
    refine (HL.out _ HX.out.bx.rd).mono ?_
    rintro e w3 ⟨rfl, b2⟩
    have HX3 := Lib.hid (HX.out.call b2)
    have HZ2 := Lib.hid (HZ.out.below b2 HZ.out.lt)
    clear z0 z1 z2 z3 y0 y1 y2 y3 y4
    have g0 := HZ2.out.c0; have g1 := HZ2.out.c1; have g2 := HZ2.out.c2; have g3 := HZ2.out.c3; have g4 := HZ2.out.c4
    have f0 := HZ2.out.f 0; have f1 := HZ2.out.f 1; have f2 := HZ2.out.f 2; have f3 := HZ2.out.f 3; have f4 := HZ2.out.f 4
    go_wp2_with fail
    clear g0 g1 g2 g3 g4 f0 f1 f2 f3 f4
    change bodyPost _ _ _ _ _ (setDesc w3 (w.heap.size + 2) 0 0 0 0 false)
    have SF := HZ2.out.five 0 0 0 0 false
    have BF := HX3.out.bx.below.trans (below_desc (B := w.heap.size) (w := w3) (b := w.heap.size + 2) (by omega) 0 0 0 0 false)
    generalize (setDesc w3 (w.heap.size + 2) 0 0 0 0 false) = wz at SF BF ⊢
    have e0 := SF.c0; have e1 := SF.c1; have e2 := SF.c2; have e3 := SF.c3; have e4 := SF.c4
    exact bodyPost_ret (v := .tuple #[dsVal Ds.zero, .int .i64 c]) (by simp [dsVal, ssVal, Ds.zero, Ss.zero, results, Tryz.results27, go_sem, e0, e1, e2, e3, e4]) rfl ⟨rfl, BF⟩
set_option linter.unusedSimpArgs false in
set_option maxRecDepth 100000 in
set_option maxHeartbeats 2000000 in
theorem nextStateOf_any (v : Mv) (x : Ss) (w : World) (hr : RdMe w v) :
    Calls Tryz.prog 22 #[mvVal v, ssVal x] w fun e w' => e = .returned (.tuple #[ssVal (nextStateOf v.me x).1, .int .i64 (nextStateOf v.me x).2]) ∧ Below w.heap.size w w' := by
  have hx0 := Bs.start (x := x) hr
  have HX := Lib.hid (hx0.call ((Below.refl _ _).alloc (Nat.le_refl _) (.cells #[.int .i64 0, .int .i64 0, .int .i64 0, .int .i64 0, .int .i64 0] 30)))
  have hz0 := StateAt.new (T := 30) (t := 0) (m := 0) (r := 0) (s := 0) (k := 0) ((w.alloc (.cells #[.int .i64 v.id, .slice v.no v.n.length v.nc, .slice v.mo v.cs.length v.mc, .slice v.eo v.e.length v.ec] 28)).alloc (.cells #[.int .i64 x.t, .int .i64 x.m, .int .i64 x.r, .int .i64 x.s, .int .i64 x.k] 30))
  rw [size_two] at hz0
  have HZ := Lib.hid hz0
  clear hz0 hx0
  by_cases hc : codeLu v.me x = 0
  · obtain ⟨h1, h2⟩ := codeLu_yes hc
    have hw := medl_iff.1 h1
    obtain ⟨j, R, S, r, s, hy⟩ := belongs_get hw h2
    have HL := Lib.hid (fun W (hW : RdMe W v) => lookupOf_yes v x W hW hc)
    rw [show nextStateOf v.me x = (nextOf v.me x, 0) from by unfold nextStateOf; rw [if_pos hc]]
    have HD := Lib.hid (fun b W hl hW => luNext_any (b := b) (d := 0) (sv := .slice none 0 0) W hl hW hw hy)
    generalize nextOf v.me x = y at HD ⊢
    clear hr hc h1 h2 hw hy
    unfold mvVal at HL ⊢
    unfold ssVal at HL HD ⊢
    go_enter Tryz.func22, Tryz.ntmps22
    go_upto_region 1 with fail
    generalize (((w.alloc (.cells #[.int .i64 v.id, .slice v.no v.n.length v.nc, .slice v.mo v.cs.length v.mc, .slice v.eo v.e.length v.ec] 28)).alloc (.cells #[.int .i64 x.t, .int .i64 x.m, .int .i64 x.r, .int .i64 x.s, .int .i64 x.k] 30)).alloc (.cells #[.int .i64 0, .int .i64 0, .int .i64 0, .int .i64 0, .int .i64 0] 30)) = w1 at HX HZ ⊢
    obtain ⟨z0, z1, z2, z3⟩ := HX.out.m
    obtain ⟨y0, y1, y2, y3, y4⟩ := HX.out.s
    go_wp2_with fail
    refine (HL.out _ HX.out.bx.rd).mono ?_
    rintro e w2 ⟨b, rfl, hb, hl, b2⟩
    have HX2 := Lib.hid (HX.out.call b2)
    have HLK := Lib.hid hl
    have HZ1 := Lib.hid (HZ.out.below b2 HZ.out.lt)
    clear z0 z1 z2 z3 y0 y1 y2 y3 y4 hl hb b2 HX HZ HL
    obtain ⟨y0, y1, y2, y3, y4⟩ := HX2.out.s
    go_wp2_with fail
    refine (HD.out _ _ HLK.out HX2.out.bx.rd).mono ?_
    rintro e w3 ⟨rfl, b3⟩
    have HX3 := Lib.hid (HX2.out.call b3)
    have HZ2 := Lib.hid (HZ1.out.below b3 HZ1.out.lt)
    clear y0 y1 y2 y3 y4 b3 HX2 HZ1 HD HLK
    have g0 := HZ2.out.c0; have g1 := HZ2.out.c1; have g2 := HZ2.out.c2; have g3 := HZ2.out.c3; have g4 := HZ2.out.c4
    have f0 := HZ2.out.f 0; have f1 := HZ2.out.f 1; have f2 := HZ2.out.f 2; have f3 := HZ2.out.f 3; have f4 := HZ2.out.f 4
    try unfold dsVal
    go_wp2_with fail
    clear g0 g1 g2 g3 g4 f0 f1 f2 f3 f4
    change bodyPost _ _ _ _ _ (setFive w3 (w.heap.size + 2) y.t y.m y.r y.s y.k)
    have SF := HZ2.out.five y.t y.m y.r y.s y.k
    have BF := HX3.out.bx.below.trans (below_five (B := w.heap.size) (w := w3) (b := w.heap.size + 2) (by omega) y.t y.m y.r y.s y.k)
    generalize (setFive w3 (w.heap.size + 2) y.t y.m y.r y.s y.k) = wz at SF BF ⊢
    have e0 := SF.c0; have e1 := SF.c1; have e2 := SF.c2; have e3 := SF.c3; have e4 := SF.c4
    exact bodyPost_ret (v := .tuple #[ssVal y, .int .i64 0]) (by simp [dsVal, ssVal, results, Tryz.results22, go_sem, e0, e1, e2, e3, e4]) rfl ⟨rfl, BF⟩
  · have HL := Lib.hid (fun W (hW : RdMe W v) => lookupOf_no v x W hW hc)
    rw [show nextStateOf v.me x = (Ss.zero, codeLu v.me x) from by unfold nextStateOf; rw [if_neg hc]]
    generalize codeLu v.me x = c at HL hc ⊢
    have hcb : (c != 0) = true := by simp [hc]
    clear hr hc
    unfold mvVal at HL ⊢
    unfold ssVal at HL ⊢
    go_enter Tryz.func22, Tryz.ntmps22
    go_upto_region 1 with fail
    generalize (((w.alloc (.cells #[.int .i64 v.id, .slice v.no v.n.length v.nc, .slice v.mo v.cs.length v.mc, .slice v.eo v.e.length v.ec] 28)).alloc (.cells #[.int .i64 x.t, .int .i64 x.m, .int .i64 x.r, .int .i64 x.s, .int .i64 x.k] 30)).alloc (.cells #[.int .i64 0, .int .i64 0, .int .i64 0, .int .i64 0, .int .i64 0] 30)) = w1 at HX HZ ⊢
    obtain ⟨z0, z1, z2, z3⟩ := HX.out.m
    obtain ⟨y0, y1, y2, y3, y4⟩ := HX.out.s
    go_wp2_with fail
    refine (HL.out _ HX.out.bx.rd).mono ?_
    rintro e w3 ⟨rfl, b2⟩
    have HX3 := Lib.hid (HX.out.call b2)
    have HZ2 := Lib.hid (HZ.out.below b2 HZ.out.lt)
    clear z0 z1 z2 z3 y0 y1 y2 y3 y4
    have g0 := HZ2.out.c0; have g1 := HZ2.out.c1; have g2 := HZ2.out.c2; have g3 := HZ2.out.c3; have g4 := HZ2.out.c4
    have f0 := HZ2.out.f 0; have f1 := HZ2.out.f 1; have f2 := HZ2.out.f 2; have f3 := HZ2.out.f 3; have f4 := HZ2.out.f 4
    go_wp2_with fail
    clear g0 g1 g2 g3 g4 f0 f1 f2 f3 f4
    change bodyPost _ _ _ _ _ (setFive w3 (w.heap.size + 2) 0 0 0 0 0)
    have SF := HZ2.out.five 0 0 0 0 0
    have BF := HX3.out.bx.below.trans (below_five (B := w.heap.size) (w := w3) (b := w.heap.size + 2) (by omega) 0 0 0 0 0)
    generalize (setFive w3 (w.heap.size + 2) 0 0 0 0 0) = wz at SF BF ⊢
    have e0 := SF.c0; have e1 := SF.c1; have e2 := SF.c2; have e3 := SF.c3; have e4 := SF.c4
    exact bodyPost_ret (v := .tuple #[ssVal Ss.zero, .int .i64 c]) (by simp [dsVal, ssVal, Ds.zero, Ss.zero, results, Tryz.results22, go_sem, e0, e1, e2, e3, e4]) rfl ⟨rfl, BF⟩
set_option linter.unusedSimpArgs false in
set_option maxRecDepth 100000 in
set_option maxHeartbeats 2000000 in
theorem slotStart_any (v : Mv) (x : Ss) (w : World) (hr : RdMe w v) :
    Calls Tryz.prog 25 #[mvVal v, ssVal x] w fun e w' => e = .returned (.tuple #[.int .i64 (slotStart v.me x).1, .int .i64 (slotStart v.me x).2]) ∧ Below w.heap.size w w' := by
  have hx0 := Bs.start (x := x) hr
  have HX := Lib.hid hx0
  clear hx0
  by_cases hc : codeLu v.me x = 0
  · obtain ⟨h1, h2⟩ := codeLu_yes hc
    have hw := medl_iff.1 h1
    obtain ⟨j, R, S, r, s, hy⟩ := belongs_get hw h2
    have HL := Lib.hid (fun W (hW : RdMe W v) => lookupOf_yes v x W hW hc)
    rw [show slotStart v.me x = (startOf v.me x, 0) from by unfold slotStart; rw [if_pos hc]]
    have HD := Lib.hid (fun b W hl => luStart_any (b := b) w W hl hw hy)
    unfold GivesInt at HD
    generalize startOf v.me x = y at HD ⊢
    have HR := Lib.hid hr
    clear hr hc h1 h2 hw hy
    unfold mvVal at HL ⊢
    unfold ssVal at HL HD ⊢
    go_enter Tryz.func25, Tryz.ntmps25
    go_upto_region 1 with fail
    generalize ((w.alloc (.cells #[.int .i64 v.id, .slice v.no v.n.length v.nc, .slice v.mo v.cs.length v.mc, .slice v.eo v.e.length v.ec] 28)).alloc (.cells #[.int .i64 x.t, .int .i64 x.m, .int .i64 x.r, .int .i64 x.s, .int .i64 x.k] 30)) = w1 at HX ⊢
    obtain ⟨z0, z1, z2, z3⟩ := HX.out.m
    obtain ⟨y0, y1, y2, y3, y4⟩ := HX.out.s
    go_wp2_with fail
    refine (HL.out _ HX.out.bx.rd).mono ?_
    rintro e w2 ⟨b, rfl, hb, hl, b2⟩
    have HX2 := Lib.hid (HX.out.call b2)
    have HLK := Lib.hid hl
    have HBB := Lib.hid (Nat.le_trans HX.out.bx.below.size hb)
    clear z0 z1 z2 z3 y0 y1 y2 y3 y4 hl hb b2 HX HL
    obtain ⟨y0, y1, y2, y3, y4⟩ := HX2.out.s
    go_wp2_with fail
    refine (HD.out _ _ (.inl ⟨HLK.out, HR.out, HX2.out.bx.below, HBB.out⟩)).mono ?_
    rintro e w3 ⟨rfl, ⟨sv, rows, hs⟩, -⟩
    have HS := Lib.hid hs
    clear y0 y1 y2 y3 y4 hs
    go_wp2_with fail
    go_ret2
    exact ⟨rfl, HS.out.be⟩
  · have HL := Lib.hid (fun W (hW : RdMe W v) => lookupOf_no v x W hW hc)
    rw [show slotStart v.me x = (0, codeLu v.me x) from by unfold slotStart; rw [if_neg hc]]
    generalize codeLu v.me x = c at HL hc ⊢
    have hcb : (c != 0) = true := by simp [hc]
    clear hr hc
    unfold mvVal at HL ⊢
    unfold ssVal at HL ⊢
    go_enter Tryz.func25, Tryz.ntmps25
    go_upto_region 1 with fail
    generalize ((w.alloc (.cells #[.int .i64 v.id, .slice v.no v.n.length v.nc, .slice v.mo v.cs.length v.mc, .slice v.eo v.e.length v.ec] 28)).alloc (.cells #[.int .i64 x.t, .int .i64 x.m, .int .i64 x.r, .int .i64 x.s, .int .i64 x.k] 30)) = w1 at HX ⊢
    obtain ⟨z0, z1, z2, z3⟩ := HX.out.m
    obtain ⟨y0, y1, y2, y3, y4⟩ := HX.out.s
    go_wp2_with fail
    refine (HL.out _ HX.out.bx.rd).mono ?_
    rintro e w3 ⟨rfl, b2⟩
    have HX3 := Lib.hid (HX.out.call b2)
    clear z0 z1 z2 z3 y0 y1 y2 y3 y4
    go_wp2_with fail
    go_ret2
    exact ⟨rfl, HX3.out.bx.below⟩
end

section
open Go.RowKit
theorem later_any (tb : Nat) (t y : Int) (w : World) (hc : w.cell? ⟨tb, 0, none⟩ = some (.int .i64 t)) :
    Calls Tryz.prog 85 #[.int .i64 y, .pointer (some ⟨tb, 0, none⟩)] w fun e w' => e = .returned (.bool (decide (t < y))) ∧ w = w' := by
  by_cases h : t < y
  · rw [decide_eq_true h]
    go_enter Tryz.func85, Tryz.ntmps85
    go_wp2
    go_ret
    exact ⟨rfl, rfl⟩
  · rw [decide_eq_false h]
    go_enter Tryz.func85, Tryz.ntmps85
    go_wp2
    go_ret
    exact ⟨rfl, rfl⟩
set_option maxRecDepth 100000 in
set_option maxHeartbeats 1000000 in
theorem indexGt_any (tb : Nat) (t : Int) (xo : Option Addr) (xcap : Nat) (A : List Int) (w : World) (hc : w.cell? ⟨tb, 0, none⟩ = some (.int .i64 t)) (hx : Rd w xo A.length A) (hl : A.length ≤ 4096) (q : Nat) (hq : q < A.length) (hno : ∀ i, i < q → A.getD i 0 ≤ t) (hyes : t < A.getD q 0) :
    Calls Tryz.prog 83 #[.slice xo A.length xcap, .func (.func 85) #[] #[.pointer (some ⟨tb, 0, none⟩)]] w fun e w' => e = .returned (.int .i64 (q : Int)) ∧ w = w' := by
  have HC := Lib.hid hc; have HX := Lib.hid hx; have HNO := Lib.hid hno; have HYES := Lib.hid hyes; have HQ := Lib.hid hq
  clear hc hx hno hyes hq
  go_enter Tryz.func83, Tryz.ntmps83
  go_wp2
  go_loopw [8] (fun i wr => ∃ k : Nat, k ≤ A.length ∧ i = .int .i64 k ∧ w = wr ∧ Hid (k ≤ q)) (fun i _ => A.length - (intOf i).toNat)
  case atStart => exact ⟨0, Nat.zero_le _, rfl, rfl, Lib.hid (Nat.zero_le _)⟩
  case round =>
    obtain ⟨k, hk, rfl, rfl, hkq⟩ := hrel
    have hlt : k < A.length := Nat.lt_of_le_of_lt hkq.out HQ.out
    obtain ⟨g, off, rfl, hcx⟩ := HX.out.here (by omega)
    have ck := hcx k hlt
    have HN := Lib.hid (fun (h : k < q) => HNO.out k h)
    have HY := Lib.hid (fun (h : k = q) => (by subst h; exact HYES.out : t < A.getD k 0))
    generalize A.getD k 0 = y at ck HN HY
    have HCALL := Lib.hid (later_any tb t y w HC.out)
    have hki : (k : Int) < (A.length : Int) := by omega
    clear hcx
    by_cases hd : t < y
    · have hkq2 : k = q := by
        rcases Nat.lt_or_eq_of_le hkq.out with h | h
        · have := HN.out h; omega
        · exact h
      have HK := Lib.hid hkq2
      rw [decide_eq_true hd] at HCALL
      clear hkq2 hd
      go_wp2_with (go_at_call 85; refine HCALL.out.mono ?_; rintro e w1 ⟨rfl, rfl⟩)
      go_ret
      exact ⟨by have h := HK.out; subst h; rfl, rfl⟩
    · have hkq2 : k < q := by
        rcases Nat.lt_or_eq_of_le hkq.out with h | h
        · exact h
        · exact absurd (HY.out h) hd
      have HK := Lib.hid hkq2
      rw [decide_eq_false hd] at HCALL
      clear hkq2 hd
      go_wp2_with (go_at_call 85; refine HCALL.out.mono ?_; rintro e w1 ⟨rfl, rfl⟩)
      go_roundw
      case rel => exact ⟨k + 1, by omega, by go_num, (by trivial), Lib.hid HK.out⟩
      case measure => simp [intOf]; omega
theorem starts_first {L : List Sl} (h : ∀ x ∈ L, 1 ≤ x.desc.dur ∧ x.desc.dur ≤ 1000) {t : Int} (h0 : 0 ≤ t) (h1 : t < dursum L) :
    placeAt L t + 1 < (startsL L).length ∧ (∀ i, i < placeAt L t + 1 → (startsL L).getD i 0 ≤ t) ∧ t < (startsL L).getD (placeAt L t + 1) 0 := by
  obtain ⟨hp, h2, h3⟩ := placeAt_in h0 h1
  refine ⟨by rw [startsL_len]; omega, fun i hi => ?_, ?_⟩
  · rw [startsL_at (by omega)]
    have := dur_mono h (show i ≤ placeAt L t by omega)
    omega
  · rw [startsL_at (by omega)]; exact h3
structure At15 (w W : World) (v : Mv) (t : Int) : Prop where
  bx : Bx 28 w W w.heap.size v
  tc : W.heap[w.heap.size + 1]? = some (.cells #[.int .i64 t] 2 (0, 0))
  rd0 : RdMe w v
theorem At15.call {w W W' : World} {v : Mv} {t : Int} (h : At15 w W v t) (hb : Below W.heap.size W W') : At15 w W' v t := ⟨h.bx.call hb, (hb.block _ (Array.getElem?_eq_some_iff.1 h.tc).1).trans h.tc, h.rd0⟩
theorem At15.c {w W : World} {v : Mv} {t : Int} (h : At15 w W v t) : W.cell? ⟨w.heap.size + 1, 0, none⟩ = some (.int .i64 t) := cell_of_row W _ 0 _ _ (0, 0) h.tc
theorem At15.start {w : World} {v : Mv} {t : Int} (hr : RdMe w v) : At15 w ((w.alloc (.cells #[.int .i64 v.id, .slice v.no v.n.length v.nc, .slice v.mo v.cs.length v.mc, .slice v.eo v.e.length v.ec] 28)).alloc (.cells #[.int .i64 t] 2)) v t := by
  refine ⟨(Bx.start hr).call ((Below.refl _ _).alloc (Nat.le_refl _) _), ?_, hr⟩
  have e : w.heap.size + 1 = (w.alloc (.cells #[.int .i64 v.id, .slice v.no v.n.length v.nc, .slice v.mo v.cs.length v.mc, .slice v.eo v.e.length v.ec] 28)).heap.size := by simp
  rw [e]
  exact heap_alloc_new _ _
theorem At15.other {w W W' : World} {v : Mv} {t : Int} (h : At15 w W v t) {K : Nat} (hK : w.heap.size + 1 < K) (g : W.grownBy W' (some K)) : At15 w W' v t := by
  have hb := h.bx.below.grown g h.bx.below.size (fun k hk => by cases hk; omega)
  exact ⟨⟨h.bx.at_.grown g (fun e => by injection e; omega), h.rd0.below hb, hb⟩, (g.block _ (Array.getElem?_eq_some_iff.1 h.tc).1 (fun e => by injection e; omega)).trans h.tc, h.rd0⟩
theorem codeLm_me (m : Me) (k : Int) : codeLm m k = codeMe m k := rfl
set_option linter.unusedSimpArgs false in
set_option maxRecDepth 100000 in
set_option maxHeartbeats 4000000 in
theorem slotAt_any (v : Mv) (k t : Int) (w : World) (hr : RdMe w v) :
    Calls Tryz.prog 32 #[mvVal v, .int .i64 k, .int .i64 t] w fun e w' => e = .returned (.tuple #[.int .i64 (slotAt v.me k t).1, .int .i64 (slotAt v.me k t).2.1, .int .i64 (slotAt v.me k t).2.2]) ∧ Below w.heap.size w w' := by
  have HX := Lib.hid (At15.start (t := t) hr)
  have HC := Lib.hid (fun W hW => codeMe_any v k W hW)
  by_cases hc : codeMe v.me k = 0
  rotate_left
  · rw [show slotAt v.me k t = (0, 0, codeMe v.me k) from by unfold slotAt; rw [codeLm_me, if_neg hc]]
    generalize codeMe v.me k = c at HC hc ⊢
    have hcb : (c != 0) = true := by simp [hc]
    clear hr hc
    unfold mvVal at HC ⊢
    go_enter Tryz.func32, Tryz.ntmps32
    go_upto_region 1 with fail
    generalize (w.alloc (.cells #[.int .i64 v.id, .slice v.no v.n.length v.nc, .slice v.mo v.cs.length v.mc, .slice v.eo v.e.length v.ec] 28)).alloc (.cells #[.int .i64 t] 2) = w1 at HX ⊢
    obtain ⟨z0, z1, z2, z3⟩ := HX.out.bx.at_.all
    go_wp2_with fail
    refine (HC.out _ HX.out.bx.rd).mono ?_
    rintro e w2 ⟨rfl, b2⟩
    clear z0 z1 z2 z3
    go_wp2_with fail
    go_ret3
    exact ⟨rfl, (HX.out.call b2).bx.below⟩
  rw [hc] at HC
  obtain ⟨j, rfl, hj, hm, -, -⟩ := codeMe_yes hc
  have hw := medl_iff.1 hm
  have hjc : j < v.cs.length := by have e : v.me.modes.length = v.cs.length := mds_len v.cs; omega
  have hsl : slotAt v.me (j : Int) t = (if t < 0 ∨ dursum (inMode v.e j) ≤ t then (0, 0, 4) else (((placeAt (inMode v.e j) t / (mdOf v.me.modes j).slots.toNat : Nat) : Int), ((placeAt (inMode v.e j) t % (mdOf v.me.modes j).slots.toNat : Nat) : Int), 0)) := by
    unfold slotAt
    rw [codeLm_me, if_pos hc, Int.toNat_natCast]
    rfl
  rw [hsl]
  by_cases h0 : t < 0
  · rw [if_pos (.inl h0)]
    clear hsl hc hm hw hj hjc hr
    unfold mvVal at HC ⊢
    go_enter Tryz.func32, Tryz.ntmps32
    go_upto_region 1 with fail
    generalize (w.alloc (.cells #[.int .i64 v.id, .slice v.no v.n.length v.nc, .slice v.mo v.cs.length v.mc, .slice v.eo v.e.length v.ec] 28)).alloc (.cells #[.int .i64 t] 2) = w1 at HX ⊢
    obtain ⟨z0, z1, z2, z3⟩ := HX.out.bx.at_.all
    go_wp2_with fail
    refine (HC.out _ HX.out.bx.rd).mono ?_
    rintro e w2 ⟨rfl, b2⟩
    have HX2 := Lib.hid (HX.out.call b2)
    clear z0 z1 z2 z3 b2 HX
    obtain ⟨z0, z1, z2, z3⟩ := HX2.out.bx.at_.all
    have HX3 := Lib.hid (HX2.out.call ((Below.refl w2.heap.size w2).alloc (Nat.le_refl _) (.cells #[.int .i64 v.id, .slice v.no v.n.length v.nc, .slice v.mo v.cs.length v.mc, .slice v.eo v.e.length v.ec, .int .u32 0, .int .i32 0, .int .u32 0, .slice none 0 0] 125)))
    go_upto_region 5 with fail
    clear z0 z1 z2 z3
    generalize w2.alloc (.cells #[.int .i64 v.id, .slice v.no v.n.length v.nc, .slice v.mo v.cs.length v.mc, .slice v.eo v.e.length v.ec, .int .u32 0, .int .i32 0, .int .u32 0, .slice none 0 0] 125) = w3 at HX3 ⊢
    have HX4 := Lib.hid (HX3.out.call (Below.drew (Below.refl w3.heap.size w3)))
    have hq := HX4.out.c
    refine wp_region_held_drew (S := fun w' => w'.cell? ⟨w.heap.size + 1, 0, none⟩ = some (.int .i64 t)) (by kernel_rfl) (hq) (fun hHeld => ?_)
    generalize w3.drew = wd at HX4 hq hHeld ⊢
    refine tk (i := 0) (v := ?_) rfl (Or.inl ⟨by rfl, ?_⟩) (by assumption) ?_
    rotate_left
    · (intro w hSw; (try dsimp only at hSw); go_simp; (try with_reducible rfl))
    try simp only [pa, pb, pc, Act.put, pe, pf, pg]
    refine tk (i := 1) (v := ?_) rfl (Or.inl ⟨by rfl, ?_⟩) (by assumption) ?_
    rotate_left
    · (intro w hSw; (try dsimp only at hSw); go_simp; (try with_reducible rfl))
    try simp only [pa, pb, pc, Act.put, pe, pf, pg]
    refine tk (i := 2) (v := ?_) rfl (Or.inl ⟨by rfl, ?_⟩) (by assumption) ?_
    rotate_left
    · (intro w hSw; (try dsimp only at hSw); go_simp; (try with_reducible rfl))
    try simp only [pa, pb, pc, Act.put, pe, pf, pg]
    refine tk (i := 3) (v := undef) rfl (Or.inr ⟨by rfl, rfl⟩) (by assumption) ?_
    try simp only [pa, pb, pc, Act.put, pe, pf, pg]
    refine tk (i := 4) (v := undef) rfl (Or.inr ⟨by rfl, rfl⟩) (by assumption) ?_
    try simp only [pa, pb, pc, Act.put, pe, pf, pg]
    refine tk (i := 5) (v := undef) rfl (Or.inr ⟨by rfl, rfl⟩) (by assumption) ?_
    try simp only [pa, pb, pc, Act.put, pe, pf, pg]
    refine tk (i := 6) (v := undef) rfl (Or.inr ⟨by rfl, rfl⟩) (by assumption) ?_
    try simp only [pa, pb, pc, Act.put, pe, pf, pg]
    refine tk (i := 7) (v := undef) rfl (Or.inr ⟨by rfl, rfl⟩) (by assumption) ?_
    try simp only [pa, pb, pc, Act.put, pe, pf, pg]
    refine tk (i := 8) (v := ?_) rfl (Or.inl ⟨by rfl, ?_⟩) (by assumption) ?_
    rotate_left
    · (intro w hSw; (try dsimp only at hSw); go_simp; (try with_reducible rfl))
    try simp only [pa, pb, pc, Act.put, pe, pf, pg]
    refine wpAnyH_done (by kernel_rfl) ?_ _
    go_wp2_with fail
    go_ret3
    exact ⟨rfl, HX4.out.bx.below⟩
  have HCT := Lib.hid (fun b W hl => luCycle_any (b := b) w W hl hw hjc)
  have HSO := Lib.hid (fun b W hl => startsOf_any (b := b) w W hl hw hjc)
  unfold GivesInt at HCT
  unfold GivesSt at HSO
  have hmf : ∀ (fn : Fn) (first cap : Array Value) (w : World), (Instr.makeFunc fn first cap).run Tryz.prog w = .ok (.func fn first cap) w := fun _ _ _ _ => rfl
  have hfst := starts_first (cyc_dur hw (k := j)) (t := t)
  change 0 ≤ t → t < dursum (inMode v.e j) → placeAt (inMode v.e j) t + 1 < (startsL (inMode v.e j)).length ∧ (∀ i, i < placeAt (inMode v.e j) t + 1 → (startsL (inMode v.e j)).getD i 0 ≤ t) ∧ t < (startsL (inMode v.e j)).getD (placeAt (inMode v.e j) t + 1) 0 at hfst
  have hle : (startsL (inMode v.e j)).length ≤ 121 := by rw [startsL_len]; have := Nat.le_trans (inMode_le v.e j) (isSls_iff.1 hw.r4).1; omega
  have hb := md_bounds hw.r3 hj
  rw [mdOf_me] at hb ⊢
  have HMD := Lib.hid (fun W (hW : RdMe W v) => hW.rm.at hjc)
  have HR0 := Lib.hid hr
  generalize mcOf v.cs j = c at hb HMD ⊢
  generalize dursum (inMode v.e j) = z at HCT hfst ⊢
  generalize placeAt (inMode v.e j) t = q at hfst ⊢
  generalize startsL (inMode v.e j) = A at HSO hfst hle
  obtain ⟨S, hS, hS1⟩ : ∃ S : Nat, c.md.slots = S ∧ 1 ≤ S := ⟨c.md.slots.toNat, by omega, by omega⟩
  have HSS := Lib.hid hS
  rw [hS, Int.toNat_natCast]
  have HRES := Lib.hid (Eq.refl (if t < 0 ∨ z ≤ t then ((0 : Int), (0 : Int), (4 : Int)) else (((q / S : Nat) : Int), ((q % S : Nat) : Int), 0)))
  clear hsl hc hm hw hj hr hb HRES hS
  unfold mvVal at HC ⊢
  obtain ⟨g, off, e0, -, hx0, -⟩ := HMD.out w HR0.out
  have E0 := Lib.hid e0
  have HMC := Lib.hid hx0
  clear e0 hx0 HMD
  have h0b : decide (t < 0) = false := decide_eq_false h0
  by_cases h1 : z ≤ t
  · rw [if_pos (.inr h1)]
    have h1b : decide (z ≤ t) = true := decide_eq_true h1
    clear hfst
    go_enter Tryz.func32, Tryz.ntmps32
    go_upto_region 1 with fail
    generalize (w.alloc (.cells #[.int .i64 v.id, .slice v.no v.n.length v.nc, .slice v.mo v.cs.length v.mc, .slice v.eo v.e.length v.ec] 28)).alloc (.cells #[.int .i64 t] 2) = w1 at HX ⊢
    obtain ⟨z0, z1, z2, z3⟩ := HX.out.bx.at_.all
    go_wp2_with fail
    refine (HC.out _ HX.out.bx.rd).mono ?_
    rintro e w2 ⟨rfl, b2⟩
    have HX2 := Lib.hid (HX.out.call b2)
    clear z0 z1 z2 z3 b2 HX
    obtain ⟨z0, z1, z2, z3⟩ := HX2.out.bx.at_.all
    have bL := (Below.refl w2.heap.size w2).alloc (Nat.le_refl _) (.cells #[.int .i64 v.id, .slice v.no v.n.length v.nc, .slice v.mo v.cs.length v.mc, .slice v.eo v.e.length v.ec, .int .u32 0, .int .i32 0, .int .u32 0, .slice none 0 0] 125)
    have HX3 := Lib.hid (HX2.out.call bL)
    have HL3 := Lib.hid (LkAt.new (v := v) (d := 0) (l := 0) (sv := .slice none 0 0) w2)
    have HZ := Lib.hid (show w.heap.size + 1 < w2.heap.size from (Array.getElem?_eq_some_iff.1 HX2.out.tc).1)
    clear bL
    go_upto_region 5 with fail
    clear z0 z1 z2 z3
    generalize w2.alloc (.cells #[.int .i64 v.id, .slice v.no v.n.length v.nc, .slice v.mo v.cs.length v.mc, .slice v.eo v.e.length v.ec, .int .u32 0, .int .i32 0, .int .u32 0, .slice none 0 0] 125) = w3 at HX3 HL3 ⊢
    obtain ⟨b, hbe⟩ : ∃ b, b = w2.heap.size := ⟨_, rfl⟩
    rw [← hbe] at HL3 HZ ⊢
    clear hbe HX2
    have HX4 := Lib.hid (HX3.out.call (Below.drew (Below.refl w3.heap.size w3)))
    have HL4 := Lib.hid (show LkAt w3.drew b v 0 0 (.slice none 0 0) from HL3.out)
    clear HX3 HL3
    have hq := HX4.out.c
    refine wp_region_held_drew (S := fun w' => w'.cell? ⟨w.heap.size + 1, 0, none⟩ = some (.int .i64 t)) (by kernel_rfl) (hq) (fun hHeld => ?_)
    generalize w3.drew = wd at HX4 HL4 hq hHeld ⊢
    refine tk (i := 0) (v := ?_) rfl (Or.inl ⟨by rfl, ?_⟩) (by assumption) ?_
    rotate_left
    · (intro w hSw; (try dsimp only at hSw); go_simp; (try with_reducible rfl))
    try simp only [pa, pb, pc, Act.put, pe, pf, pg]
    refine tk (i := 1) (v := ?_) rfl (Or.inl ⟨by rfl, ?_⟩) (by assumption) ?_
    rotate_left
    · (intro w hSw; (try dsimp only at hSw); go_simp; (try with_reducible rfl))
    try simp only [pa, pb, pc, Act.put, pe, pf, pg]
    refine tk (i := 2) (v := ?_) rfl (Or.inl ⟨by rfl, ?_⟩) (by assumption) ?_
    rotate_left
    · (intro w hSw; (try dsimp only at hSw); go_simp; (try with_reducible rfl))
    try simp only [pa, pb, pc, Act.put, pe, pf, pg]
    refine tk (i := 3) (v := ?_) rfl (Or.inl ⟨by rfl, ?_⟩) (by assumption) ?_
    rotate_left
    · (intro w hSw; (try dsimp only at hSw); go_simp; (try with_reducible rfl))
    try simp only [pa, pb, pc, Act.put, pe, pf, pg]
    refine tk (i := 4) (v := ?_) rfl (Or.inl ⟨by rfl, ?_⟩) (by assumption) ?_
    rotate_left
    · (intro w hSw; (try dsimp only at hSw); go_simp; (try with_reducible rfl))
    try simp only [pa, pb, pc, Act.put, pe, pf, pg]
    refine tk (i := 5) (v := ?_) rfl (Or.inl ⟨by rfl, ?_⟩) (by assumption) ?_
    rotate_left
    · (intro w hSw; (try dsimp only at hSw); go_simp; (try with_reducible rfl))
    try simp only [pa, pb, pc, Act.put, pe, pf, pg]
    refine wpAnyH_ready (rs := [6]) (by kernel_rfl) (by simp) (AllReadyH.cons rfl (fun K hK => ?_) AllReadyH.nil)
    go_simp
    refine (HCT.out b _ (.inl ⟨HL4.out, HX4.out.rd0, HX4.out.bx.below, by have := HZ.out; omega⟩)).mono ?_
    rintro e w4 ⟨rfl, ⟨sv, rows, hs⟩, hg⟩
    have HS4 := Lib.hid hs
    have HX5 := Lib.hid (HX4.out.other HZ.out hg)
    clear hs hg hq HX4 HL4
    have hq := HX5.out.c
    go_wp2_with fail
    refine hK.out _ _ ?_ (fun hHeld => ?_)
    · exact hq
    clear hK K
    try simp only [pa, pb, pc, Act.put, pe, pf, pg]
    refine tk (i := 7) (v := ?_) rfl (Or.inl ⟨by rfl, ?_⟩) (by assumption) ?_
    rotate_left
    · (intro w hSw; (try dsimp only at hSw); go_simp; (try with_reducible rfl))
    try simp only [pa, pb, pc, Act.put, pe, pf, pg]
    refine tk (i := 8) (v := ?_) rfl (Or.inl ⟨by rfl, ?_⟩) (by assumption) ?_
    rotate_left
    · (intro w hSw; (try dsimp only at hSw); go_simp; (try with_reducible rfl))
    try simp only [pa, pb, pc, Act.put, pe, pf, pg]
    refine wpAnyH_done (by kernel_rfl) ?_ _
    clear hq
    go_wp2_with fail
    go_ret3
    exact ⟨rfl, HX5.out.bx.below⟩
  · rw [if_neg (fun h => h.elim h0 h1)]
    have h1b : decide (z ≤ t) = false := decide_eq_false h1
    obtain ⟨f1, f2, f3⟩ := hfst (by omega) (by omega)
    have F1 := Lib.hid f1; have F2 := Lib.hid f2; have F3 := Lib.hid f3
    have hqs : q ≤ 121 := by omega
    have hle2 : A.length ≤ 4096 := by omega
    clear hfst f1 f2 f3
    obtain ⟨d, hd⟩ : ∃ d : Int, d = ((q / S : Nat) : Int) := ⟨_, rfl⟩
    obtain ⟨m, hmm⟩ : ∃ m : Int, m = ((q % S : Nat) : Int) := ⟨_, rfl⟩
    rw [← hd, ← hmm]
    have e1 : (q : Int).tdiv (S : Int) = d := by rw [hd]; rfl
    have e3 : (q : Int).tmod (S : Int) = m := by rw [hmm]; rfl
    have e4 : (q : Int) / (S : Int) = d := by rw [hd]; rfl
    have e5 : (q : Int) % (S : Int) = m := by rw [hmm]; rfl
    have hdb : IntKind.i64.wrap d = d := by
      have h1 := Nat.div_le_self q S
      clear e1 e3 e4 e5
      generalize q / S = dn at hd h1
      rw [IntKind.wrap_i64]; omega
    clear hd hmm
    go_enter Tryz.func32, Tryz.ntmps32
    go_upto_region 1 with fail
    generalize (w.alloc (.cells #[.int .i64 v.id, .slice v.no v.n.length v.nc, .slice v.mo v.cs.length v.mc, .slice v.eo v.e.length v.ec] 28)).alloc (.cells #[.int .i64 t] 2) = w1 at HX ⊢
    obtain ⟨z0, z1, z2, z3⟩ := HX.out.bx.at_.all
    go_wp2_with fail
    refine (HC.out _ HX.out.bx.rd).mono ?_
    rintro e w2 ⟨rfl, b2⟩
    have HX2 := Lib.hid (HX.out.call b2)
    clear z0 z1 z2 z3 b2 HX
    obtain ⟨z0, z1, z2, z3⟩ := HX2.out.bx.at_.all
    have bL := (Below.refl w2.heap.size w2).alloc (Nat.le_refl _) (.cells #[.int .i64 v.id, .slice v.no v.n.length v.nc, .slice v.mo v.cs.length v.mc, .slice v.eo v.e.length v.ec, .int .u32 0, .int .i32 0, .int .u32 0, .slice none 0 0] 125)
    have HX3 := Lib.hid (HX2.out.call bL)
    have HL3 := Lib.hid (LkAt.new (v := v) (d := 0) (l := 0) (sv := .slice none 0 0) w2)
    have HZ := Lib.hid (show w.heap.size + 1 < w2.heap.size from (Array.getElem?_eq_some_iff.1 HX2.out.tc).1)
    clear bL
    go_upto_region 5 with fail
    clear z0 z1 z2 z3
    generalize w2.alloc (.cells #[.int .i64 v.id, .slice v.no v.n.length v.nc, .slice v.mo v.cs.length v.mc, .slice v.eo v.e.length v.ec, .int .u32 0, .int .i32 0, .int .u32 0, .slice none 0 0] 125) = w3 at HX3 HL3 ⊢
    obtain ⟨b, hbe⟩ : ∃ b, b = w2.heap.size := ⟨_, rfl⟩
    rw [← hbe] at HL3 HZ ⊢
    clear hbe HX2
    have HX4 := Lib.hid (HX3.out.call (Below.drew (Below.refl w3.heap.size w3)))
    have HL4 := Lib.hid (show LkAt w3.drew b v 0 0 (.slice none 0 0) from HL3.out)
    clear HX3 HL3
    have hq := HX4.out.c
    refine wp_region_held_drew (S := fun w' => w'.cell? ⟨w.heap.size + 1, 0, none⟩ = some (.int .i64 t)) (by kernel_rfl) (hq) (fun hHeld => ?_)
    generalize w3.drew = wd at HX4 HL4 hq hHeld ⊢
    refine tk (i := 0) (v := ?_) rfl (Or.inl ⟨by rfl, ?_⟩) (by assumption) ?_
    rotate_left
    · (intro w hSw; (try dsimp only at hSw); go_simp; (try with_reducible rfl))
    try simp only [pa, pb, pc, Act.put, pe, pf, pg]
    refine tk (i := 1) (v := ?_) rfl (Or.inl ⟨by rfl, ?_⟩) (by assumption) ?_
    rotate_left
    · (intro w hSw; (try dsimp only at hSw); go_simp; (try with_reducible rfl))
    try simp only [pa, pb, pc, Act.put, pe, pf, pg]
    refine tk (i := 2) (v := ?_) rfl (Or.inl ⟨by rfl, ?_⟩) (by assumption) ?_
    rotate_left
    · (intro w hSw; (try dsimp only at hSw); go_simp; (try with_reducible rfl))
    try simp only [pa, pb, pc, Act.put, pe, pf, pg]
    refine tk (i := 3) (v := ?_) rfl (Or.inl ⟨by rfl, ?_⟩) (by assumption) ?_
    rotate_left
    · (intro w hSw; (try dsimp only at hSw); go_simp; (try with_reducible rfl))
    try simp only [pa, pb, pc, Act.put, pe, pf, pg]
    refine tk (i := 4) (v := ?_) rfl (Or.inl ⟨by rfl, ?_⟩) (by assumption) ?_
    rotate_left
    · (intro w hSw; (try dsimp only at hSw); go_simp; (try with_reducible rfl))
    try simp only [pa, pb, pc, Act.put, pe, pf, pg]
    refine tk (i := 5) (v := ?_) rfl (Or.inl ⟨by rfl, ?_⟩) (by assumption) ?_
    rotate_left
    · (intro w hSw; (try dsimp only at hSw); go_simp; (try with_reducible rfl))
    try simp only [pa, pb, pc, Act.put, pe, pf, pg]
    refine wpAnyH_ready (rs := [6]) (by kernel_rfl) (by simp) (AllReadyH.cons rfl (fun K hK => ?_) AllReadyH.nil)
    go_simp
    refine (HCT.out b _ (.inl ⟨HL4.out, HX4.out.rd0, HX4.out.bx.below, by have := HZ.out; omega⟩)).mono ?_
    rintro e w4 ⟨rfl, ⟨sv, rows, hs⟩, hg⟩
    have HS4 := Lib.hid hs
    have HX5 := Lib.hid (HX4.out.other HZ.out hg)
    clear hs hg hq HX4 HL4
    have hq := HX5.out.c
    go_wp2_with fail
    refine hK.out _ _ ?_ (fun hHeld => ?_)
    · exact hq
    clear hK K
    try simp only [pa, pb, pc, Act.put, pe, pf, pg]
    refine tk (i := 7) (v := ?_) rfl (Or.inl ⟨by rfl, ?_⟩) (by assumption) ?_
    rotate_left
    · (intro w hSw; (try dsimp only at hSw); go_simp; (try with_reducible rfl))
    try simp only [pa, pb, pc, Act.put, pe, pf, pg]
    refine tk (i := 8) (v := ?_) rfl (Or.inl ⟨by rfl, ?_⟩) (by assumption) ?_
    rotate_left
    · (intro w hSw; (try dsimp only at hSw); go_simp; (try with_reducible rfl))
    try simp only [pa, pb, pc, Act.put, pe, pf, pg]
    refine wpAnyH_done (by kernel_rfl) ?_ _
    clear hq
    go_wp2_with fail
    refine (HSO.out b _ (.inr ⟨_, _, HS4.out⟩)).mono ?_
    rintro e w5 ⟨ao, cc, sv2, rows2, rfl, ho, hs, hg⟩
    have HX6 := Lib.hid (HX5.out.other HZ.out hg)
    have HO6 := Lib.hid ho
    clear hs hg ho HX5 HS4
    obtain ⟨ao2, c2, e2, -, r2⟩ := HO6.out.get
    have HIX := Lib.hid (indexGt_any (w.heap.size + 1) t ao cc A _ HX6.out.c (by cases e2; exact r2) hle2 (q + 1) F1.out F2.out F3.out)
    have hwq : IntKind.i64.wrap (((q + 1 : Nat) : Int) - 1) = (q : Int) := by rw [IntKind.wrap_i64]; omega
    have hwq2 : IntKind.i64.wrap ((q : Int) + 1 - 1) = (q : Int) := by rw [IntKind.wrap_i64]; omega
    clear e2 r2
    go_wp2_with (go_at_call 83; refine HIX.out.mono ?_; rintro e w6 ⟨rfl, rfl⟩)
    clear HIX
    have HX7 := Lib.hid (HX6.out.call (Below.drew (Below.refl _ _)))
    have h2c := HX6.out.bx.at_.all.2.2.1
    rw [E0.out] at h2c
    have hmc := (HMC.out.below HX6.out.bx.below HMC.out.lt).c1
    rw [HSS.out] at hmc
    have hSne : ¬ (S : Int) = 0 := by omega
    have hSn2 : ¬ S = 0 := by omega
    have hSb : ((S : Int) == 0) = false := by simp; omega
    have HBF := Lib.hid HX6.out.bx.below
    go_quiet (fail)
    go_wp2_with fail
    go_quiet (fail)
    go_wp2_with fail
    go_ret3
    exact ⟨rfl, HBF.out.trans ⟨rfl, rfl, rfl, Nat.le_refl _, fun _ _ => rfl⟩⟩
end

section
open Go.RowKit
section
variable {P : Program} {E T : Nat} (w : World) {ops : Array Oper} {rest : List Oper} {o : Oper} {a : Act} {Q : Exit → Act → World → Prop}
theorem append_g (hgd : o.guard = none) (s x : Operand)
    (ho : o.op = .call { callee := .builtin .append, args := #[s, x], argTypes := #[T, T] })
    (base : Nat) (ht : P.underlying T = some (.slice E)) (hi : Info64 P E)
    (v : Value) (xs : List Int) (hs : a.eval s = v) (hown : Own E w base v xs) (b : Nat) (y : Int) (c : Nat) (hx : a.eval x = .slice (some ⟨b, 0, none⟩) 1 c) (hc : w.cell? ⟨b, 0, none⟩ = some (.int .i64 y))
    (hlen : xs.length ≤ 4294967296) (hbase : base ≤ w.heap.size)
    (h : ∀ v' w', Own E w' base v' (xs ++ [y]) → w.grownBy w' v.ownBlock → wpList P ops Q rest (a.put o.dst v') w') : wpList P ops Q (o :: rest) a w := by
  obtain ⟨i0, hi, hz0, hz1, hz2⟩ := info_parts hi
  refine wpList_append_own w hgd s x T ho base E i0 (.int .i64 0) 1 8 ht hi hz0 hz1 hz2 rfl (by decide) v xs.length _ hs hown ⟨b, 0, none⟩ 1 c [.int .i64 y] hx rfl ?_ ?_ (by unfold maxLen; omega) (by omega) hbase ?_
  · intro j u hj
    match j, hj with
    | 0, hj => simp at hj; subst hj; simpa [Addr.add] using hc
  · intro u hu; simp at hu; subst hu; rfl
  · intro v' w' h1 h2 _
    refine h v' w' ?_ h2
    unfold Own
    simpa using h1
end
theorem RdE.ne_lk {w : World} {g off n b : Nat} {t : List Sl} {v : Mv} {d l : Int} {sv : Value} (h : RdE w (some ⟨g, off, none⟩) n t) (hn : 0 < n) (hl : LkAt w b v d l sv) : g ≠ b := by
  rintro rfl
  obtain ⟨g', off', e, hx⟩ := h.here hn
  cases e
  have h0 := hx 0 hn
  have c1 := h0.c1
  have c7 := h0.c7
  rcases Nat.eq_zero_or_pos off with rfl | hp
  · have := hl.c1
    rw [show (0 + 0 * 8 + 1 : Nat) = 1 by omega] at c1
    rw [this] at c1
    cases c1
  · have h7 := cell_of_row w g (off + 0 * 8 + 7) _ _ (0, 0) hl
    rw [h7] at c7
    rw [Array.getElem?_eq_none (by simp; omega)] at c7
    cases c7
theorem RdE.grownL {w w' : World} {ao : Option Addr} {n b : Nat} {t : List Sl} {v : Mv} {d l : Int} {sv : Value} (h : RdE w ao n t) (hl : LkAt w b v d l sv) (hg : w.grownBy w' (some b)) : RdE w' ao n t := by
  refine ⟨h.len, fun hn => ?_⟩
  obtain ⟨g, off, e, hx⟩ := h.here hn
  subst e
  have hne : some g ≠ some b := fun e => h.ne_lk hn hl (by injection e)
  exact ⟨g, off, rfl, fun i hi => by
    have hy := hx i hi
    exact ⟨hg.cell hy.c0 hne, hg.cell hy.c1 hne, hg.cell hy.c2 hne, hg.cell hy.c3 hne, hg.cell hy.c4 hne, hg.cell hy.c5 hne, hg.cell hy.c6 hne, hg.cell hy.c7 hne⟩⟩
set_option maxRecDepth 100000 in
set_option maxHeartbeats 2000000 in
theorem startsOf_done {b j : Nat} {v : Mv} {sv : Value} {rows : List Value} (w0 w : World) (h : LuSt w0 w b v sv rows) (hj : j < v.cs.length) :
    Calls Tryz.prog 84 #[.pointer (some ⟨b, 0, none⟩), .int .i64 (j : Int)] w fun e w' => ∃ ao c, e = .returned (.slice ao (startsL (inMode v.e j)).length c) ∧ Own 2 w w0.heap.size (.slice ao (startsL (inMode v.e j)).length c) (startsL (inMode v.e j)) ∧ w = w' := by
  have hmf : ∀ (fn : Fn) (first cap : Array Value) (w : World), (Instr.makeFunc fn first cap).run Tryz.prog w = .ok (.func fn first cap) w := fun _ _ _ _ => rfl
  have HG := Lib.hid (do_done ⟨b, 4, none⟩ (.func (.func 138) #[.pointer (some ⟨b, 0, none⟩)] #[]) w h.lk.c4)
  obtain ⟨g, cap, ao, c, e1, hjr, hc, ho⟩ := h.row hj
  subst e1
  have c7 := h.lk.c7
  have HO := Lib.hid ho
  clear h ho
  go_enter Tryz.func84, Tryz.ntmps84
  go_wp2_with fail
  refine HG.out.mono ?_
  rintro e w1 ⟨rfl, rfl⟩
  clear HG
  go_wp2_with fail
  go_ret
  exact ⟨_, _, rfl, HO.out, rfl⟩
structure Apart (w W : World) (v : Mv) (sv : Value) (rows : List Value) (b base : Nat) (so : Option Addr) (o : Value) (xs : List Int) : Prop where
  lu : LuSt w W b v sv rows
  ow : Own 2 W base o xs
  b0 : base ≤ W.heap.size
  b1 : w.heap.size ≤ base
  rw_ : ∀ k, k < rows.length → ∀ g, (rows.getD k (.slice none 0 0)).ownBlock = some g → g < base
  so_ : ∀ g off, so = some ⟨g, off, none⟩ → g < base
def SdSt (w W : World) (b : Nat) (v : Mv) (so : Option Addr) (L : List Sl) (o : Value) (xs : List Int) : Prop :=
  RdE W so L.length L ∧ RdMe w v ∧ ((LkAt W b v 0 0 (.slice none 0 0) ∧ Below w.heap.size w W ∧ w.heap.size ≤ b ∧ o = .slice none 0 0 ∧ xs = []) ∨ ∃ sv rows base, Apart w W v sv rows b base so o xs)
section
variable {w W W' : World} {b base : Nat} {v : Mv} {so : Option Addr} {L : List Sl} {o o' sv : Value} {rows : List Value} {xs : List Int}
theorem Apart.call (h : Apart w W v sv rows b base so o xs) (hb : Below W.heap.size W W') : Apart w W' v sv rows b base so o xs :=
  ⟨h.lu.call hb, h.ow.below hb, Nat.le_trans h.b0 hb.size, h.b1, h.rw_, h.so_⟩
theorem SdSt.call (h : SdSt w W b v so L o xs) (hb : Below W.heap.size W W') : SdSt w W' b v so L o xs := by
  obtain ⟨h1, h2, h3⟩ := h
  refine ⟨h1.below hb, h2, ?_⟩
  rcases h3 with ⟨a1, a2, a3, a4, a5⟩ | ⟨sv, rows, base, h⟩
  · exact .inl ⟨a1.below hb a1.lt, a2.trans (hb.mono a2.size), a3, a4, a5⟩
  · exact .inr ⟨sv, rows, base, h.call hb⟩
theorem Apart.push {y : Int} (h : Apart w W v sv rows b base so o xs) (ho : Own 2 W' base o' (xs ++ [y])) (g : W.grownBy W' o.ownBlock) : Apart w W' v sv rows b base so o' (xs ++ [y]) := by
  have hge : ∀ k, o.ownBlock = some k → base ≤ k := fun k hk => (h.ow.block k hk).1
  have hl := h.lu
  refine ⟨⟨hl.lk.grown g (ownsRow_ne h.ow hl.lk (by decide)), World.ownsRow.kept hl.ow g (rows_apart hl.ow h.ow (by decide)), fun k hk => ?_, hl.rd0, hl.be.grown g hl.be.size (fun k hk => Nat.le_trans h.b1 (hge k hk)), hl.hb, hl.n⟩, ho, Nat.le_trans h.b0 g.size, h.b1, h.rw_, h.so_⟩
  refine Own.only (hl.ro k hk) g ?_
  cases he : (rows.getD k (.slice none 0 0)).ownBlock with
  | none => exact .inl rfl
  | some gg =>
    refine .inr (fun e => ?_)
    have h1 := h.rw_ k hk gg he
    have h2 := hge gg e.symm
    omega
theorem RdE.kept15 {n base : Nat} {t : List Sl} (h : RdE W so n t) {g : Option Nat} (hg : W.grownBy W' g) (hs : ∀ gg off, so = some ⟨gg, off, none⟩ → gg < base) (hge : ∀ k, g = some k → base ≤ k) : RdE W' so n t := by
  refine ⟨h.len, fun hn => ?_⟩
  obtain ⟨gg, off, e, hx⟩ := h.here hn
  have h1 := hs gg off e
  have hne : some gg ≠ g := fun e2 => by have := hge gg e2.symm; omega
  exact ⟨gg, off, e, fun i hi => by
    have hy := hx i hi
    exact ⟨hg.cell hy.c0 hne, hg.cell hy.c1 hne, hg.cell hy.c2 hne, hg.cell hy.c3 hne, hg.cell hy.c4 hne, hg.cell hy.c5 hne, hg.cell hy.c6 hne, hg.cell hy.c7 hne⟩⟩
theorem Apart.first (hs : LuSt w W' b v sv rows) (hr : RdE W so L.length L) (hl : LkAt W b v 0 0 (.slice none 0 0)) (hg : W.grownBy W' (some b)) (hn : 0 < L.length) : Apart w W' v sv rows b W'.heap.size so (.slice none 0 0) [] ∧ RdE W' so L.length L := by
  refine ⟨⟨hs, Own.nil_, Nat.le_refl _, hs.be.size, fun k hk g e => ((hs.ro k hk).block g e).2, fun g off e => ?_⟩, hr.grownL hl hg⟩
  obtain ⟨gg, off', e2, hx⟩ := hr.here hn
  rw [e] at e2
  cases e2
  exact Nat.lt_of_lt_of_le (hx 0 hn).lt hg.size
theorem ask_any {j : Nat} (h : SdSt w W b v so L o xs) (hw : Well v.me) (hj : j < v.cs.length) (hn : 0 < L.length) :
    Calls Tryz.prog 84 #[.pointer (some ⟨b, 0, none⟩), .int .i64 (j : Int)] W fun e w' => ∃ ao c sv rows base, e = .returned (.slice ao (startsL (inMode v.e j)).length c) ∧ Own 2 w' w.heap.size (.slice ao (startsL (inMode v.e j)).length c) (startsL (inMode v.e j)) ∧ Apart w w' v sv rows b base so o xs ∧ RdE w' so L.length L ∧ RdMe w v := by
  obtain ⟨h1, h2, h3⟩ := h
  rcases h3 with ⟨a1, a2, a3, rfl, rfl⟩ | ⟨sv, rows, base, h⟩
  · refine (startsOf_any w W (.inl ⟨a1, h2, a2, a3⟩) hw hj).mono ?_
    rintro e w' ⟨ao, c, sv, rows, rfl, ho, hs, hg⟩
    obtain ⟨k1, k2⟩ := Apart.first hs h1 a1 hg hn
    exact ⟨ao, c, sv, rows, _, rfl, ho, k1, k2, h2⟩
  · refine (startsOf_done w W h.lu hj).mono ?_
    rintro e w' ⟨ao, c, rfl, ho, rfl⟩
    exact ⟨ao, c, sv, rows, base, rfl, ho, h, h1, h2⟩
end
set_option linter.unusedSimpArgs false in
set_option maxRecDepth 100000 in
set_option maxHeartbeats 4000000 in
theorem sendTimes_any (v : Mv) (k d : Int) (w : World) (hr : RdMe w v) :
    Calls Tryz.prog 33 #[mvVal v, .int .i64 k, .int .i64 d] w (Makes2 2 w (sendTimes v.me k d).1 (sendTimes v.me k d).2) := by
  have HX := Lib.hid (Bx.start (T := 28) hr)
  have HC := Lib.hid (fun W hW => codeMe_any v k W hW)
  by_cases hc : codeMe v.me k = 0
  rotate_left
  · rw [show sendTimes v.me k d = ([], codeMe v.me k) from by unfold sendTimes; rw [show codeLm v.me k = codeMe v.me k from rfl, if_neg hc]]
    generalize codeMe v.me k = c at HC hc ⊢
    have hcb : (c != 0) = true := by simp [hc]
    clear hr hc
    unfold mvVal at HC ⊢
    go_enter Tryz.func33, Tryz.ntmps33
    go_upto_region 1 with fail
    generalize w.alloc (.cells #[.int .i64 v.id, .slice v.no v.n.length v.nc, .slice v.mo v.cs.length v.mc, .slice v.eo v.e.length v.ec] 28) = w1 at HX ⊢
    obtain ⟨z0, z1, z2, z3⟩ := HX.out.at_.all
    go_wp2_with fail
    refine (HC.out _ HX.out.rd).mono ?_
    rintro e w2 ⟨rfl, b2⟩
    clear z0 z1 z2 z3
    go_wp2_with fail
    go_ret2
    exact ⟨_, rfl, Own.nil_, (HX.out.call b2).below⟩
  rw [hc] at HC
  obtain ⟨j, rfl, hj, hm, -, -⟩ := codeMe_yes hc
  have hw := medl_iff.1 hm
  have hjc : j < v.cs.length := by have e : v.me.modes.length = v.cs.length := mds_len v.cs; omega
  have hsl : sendTimes v.me (j : Int) d = (if (findNode v.n d).2 = 0 then (sendTo (inMode v.e j) d (inMode v.e j).length, 0) else ([], 2)) := by
    unfold sendTimes
    rw [show codeLm v.me (j : Int) = codeMe v.me (j : Int) from rfl, if_pos hc, Int.toNat_natCast]
    rfl
  rw [hsl]
  have HFN := Lib.hid (fun W (hW : RdMe W v) => (show Calls Tryz.prog 86 #[.slice v.no v.n.length v.nc, .int .i64 d] W fun e w' => e = .returned (.tuple #[ndVal (findNode v.n d).1, .int .i64 (findNode v.n d).2]) ∧ Below W.heap.size W w' from findNode_any v.no v.n.length v.nc v.n d W hW.rn hW.nle hW.ncap hW.ns))
  obtain ⟨x, q, hfn⟩ : ∃ x q, findNode v.n d = (x, q) := ⟨_, _, rfl⟩
  rw [hfn] at HFN ⊢
  unfold ndVal at HFN
  dsimp only at HFN ⊢
  by_cases hq : q = 0
  rotate_left
  · rw [if_neg hq]
    have hqb : (q != 0) = true := by simp [hq]
    clear hsl hc hm hw hj hjc hr hq hfn
    unfold mvVal at HC ⊢
    go_enter Tryz.func33, Tryz.ntmps33
    go_upto_region 1 with fail
    generalize w.alloc (.cells #[.int .i64 v.id, .slice v.no v.n.length v.nc, .slice v.mo v.cs.length v.mc, .slice v.eo v.e.length v.ec] 28) = w1 at HX ⊢
    obtain ⟨z0, z1, z2, z3⟩ := HX.out.at_.all
    go_wp2_with fail
    refine (HC.out _ HX.out.rd).mono ?_
    rintro e w2 ⟨rfl, b2⟩
    have HX2 := Lib.hid (HX.out.call b2)
    clear z0 z1 z2 z3 b2 HX
    obtain ⟨z0, z1, z2, z3⟩ := HX2.out.at_.all
    go_wp2_with fail
    refine (HFN.out _ HX2.out.rd).mono ?_
    rintro e w3 ⟨rfl, b3⟩
    have HX3 := Lib.hid (HX2.out.call b3)
    have HX4 := Lib.hid (HX3.out.call ((Below.refl w3.heap.size w3).alloc (Nat.le_refl _) (.cells #[.int .i64 x.id, .string x.name, .int .i64 x.drift, .bool x.pas] 130)))
    clear z0 z1 z2 z3
    go_wp2_with fail
    go_ret2
    exact ⟨_, rfl, Own.nil_, HX4.out.below⟩
  rw [if_pos hq]
  subst hq
  have HCY := Lib.hid (fun W (hW : RdMe W v) => cycleOf_any v j W hW hw.full hjc)
  have HSO := Lib.hid (fun b W so o xs (hl : SdSt w W b v so (inMode v.e j) o xs) (hn : 0 < (inMode v.e j).length) => ask_any hl hw hjc hn)
  have HAT := Lib.hid (fun i (hi : i ≤ (inMode v.e j).length) => startsL_at hi)
  have hln := startsL_len (inMode v.e j)
  have hle : (inMode v.e j).length ≤ 120 := Nat.le_trans (inMode_le v.e j) (isSls_iff.1 hw.r4).1
  have HR0 := Lib.hid hr
  have HSE := Lib.hid (fun i (hi : i ≤ (inMode v.e j).length) => (by rw [sendTo_len _ _ _ hi]; exact Nat.le_trans (List.length_filter_le _ _) (by rw [List.length_take]; omega) : (sendTo (inMode v.e j) d i).length ≤ 120))
  generalize inMode v.e j = L at HCY HSO HAT hln hle HSE ⊢
  generalize startsL L = A at HSO HAT hln
  clear hsl hc hm hw hj hjc hr hfn
  unfold mvVal at HC HCY ⊢
  go_enter Tryz.func33, Tryz.ntmps33
  go_upto_region 1 with fail
  generalize w.alloc (.cells #[.int .i64 v.id, .slice v.no v.n.length v.nc, .slice v.mo v.cs.length v.mc, .slice v.eo v.e.length v.ec] 28) = w1 at HX ⊢
  obtain ⟨z0, z1, z2, z3⟩ := HX.out.at_.all
  go_wp2_with fail
  refine (HC.out _ HX.out.rd).mono ?_
  rintro e w2 ⟨rfl, b2⟩
  have HX2 := Lib.hid (HX.out.call b2)
  clear z0 z1 z2 z3 b2 HX
  obtain ⟨z0, z1, z2, z3⟩ := HX2.out.at_.all
  go_wp2_with fail
  refine (HFN.out _ HX2.out.rd).mono ?_
  rintro e w3 ⟨rfl, b3⟩
  have HX3 := Lib.hid (HX2.out.call b3)
  have HX4 := Lib.hid (HX3.out.call ((Below.refl w3.heap.size w3).alloc (Nat.le_refl _) (.cells #[.int .i64 x.id, .string x.name, .int .i64 x.drift, .bool x.pas] 130)))
  clear z0 z1 z2 z3 b3 HX2 HX3
  go_upto_region 7 with fail
  generalize w3.alloc (.cells #[.int .i64 x.id, .string x.name, .int .i64 x.drift, .bool x.pas] 130) = w4 at HX4 ⊢
  obtain ⟨z0, z1, z2, z3⟩ := HX4.out.at_.all
  have bL := (Below.refl w4.heap.size w4).alloc (Nat.le_refl _) (.cells #[.int .i64 v.id, .slice v.no v.n.length v.nc, .slice v.mo v.cs.length v.mc, .slice v.eo v.e.length v.ec, .int .u32 0, .int .i32 0, .int .u32 0, .slice none 0 0] 125)
  have HX5 := Lib.hid (HX4.out.call bL)
  have HL5 := Lib.hid (LkAt.new (v := v) (d := 0) (l := 0) (sv := .slice none 0 0) w4)
  have HZ := Lib.hid (HX4.out.below.size)
  clear bL
  go_upto_region 9 with fail
  clear z0 z1 z2 z3
  generalize w4.alloc (.cells #[.int .i64 v.id, .slice v.no v.n.length v.nc, .slice v.mo v.cs.length v.mc, .slice v.eo v.e.length v.ec, .int .u32 0, .int .i32 0, .int .u32 0, .slice none 0 0] 125) = w5 at HX5 HL5 ⊢
  obtain ⟨b, hbe⟩ : ∃ b, b = w4.heap.size := ⟨_, rfl⟩
  rw [← hbe] at HL5 HZ ⊢
  clear hbe HX4
  obtain ⟨z0, z1, z2, z3⟩ := HX5.out.at_.all
  go_wp2_with fail
  refine (HCY.out _ HX5.out.rd).mono ?_
  rintro e w6 ⟨so, sc, rfl, srd, -, -, b6⟩
  have HX6 := Lib.hid (HX5.out.call b6)
  have HS6 := Lib.hid (show SdSt w w6 b v so L (.slice none 0 0) [] from ⟨srd, HR0.out, .inl ⟨HL5.out.below b6 HL5.out.lt, HX6.out.below, HZ.out, rfl, rfl⟩⟩)
  clear z0 z1 z2 z3 b6 srd HX5 HL5 HX6
  go_wp2_with fail
  go_loopw [12, 37] (fun o i wr => ∃ k : Nat, k ≤ L.length ∧ i = .int .i64 k ∧ Hid (SdSt w wr b v so L o (sendTo L d k))) (fun _ i _ => L.length - (intOf i).toNat)
  case atStart => exact ⟨0, Nat.zero_le _, rfl, HS6⟩
  case round =>
    clear HS6
    obtain ⟨k, hk, rfl, HS⟩ := hrel
    by_cases hlt : k < L.length
    · obtain ⟨bb, off, e0, hg, hx⟩ := HS.out.1.at hlt
      have HB1 := HS
      subst e0
      have HNX := Lib.hid (show sendTo L d (k + 1) = sendTo L d k ++ (if (slOf L k).desc.node = d then [dursum (L.take k)] else []) from rfl)
      generalize slOf L k = y at hx HNX
      obtain ⟨x0, x1, x2, x3, x4, x5, x6, x7⟩ := hx.all8
      have bal := (Below.refl wr.heap.size wr).alloc (Nat.le_refl _) (.cells #[.int .i64 y.mode, .int .i64 y.round, .int .i64 y.slot, .int .i64 y.desc.node, .int .i64 y.desc.kind, .int .i64 y.desc.size, .int .i64 y.desc.dur, .bool y.desc.chg] 65)
      have HX1 := Lib.hid (SlBk.new (T := 65) (x := y) wr)
      have HB2 := Lib.hid (HS.out.call bal)
      clear bal hx HS
      go_upto_region 12 with fail
      clear x0 x1 x2 x3 x4 x5 x6 x7
      generalize wr.alloc (.cells #[.int .i64 y.mode, .int .i64 y.round, .int .i64 y.slot, .int .i64 y.desc.node, .int .i64 y.desc.kind, .int .i64 y.desc.size, .int .i64 y.desc.dur, .bool y.desc.chg] 65) = w7 at HX1 HB2 ⊢
      obtain ⟨-, -, -, x3, -, -, -, -⟩ := HX1.out.all8
      by_cases h1 : y.desc.node = d
      · have h1b : (y.desc.node == d) = true := by simp [h1]
        have HN2 := Lib.hid (HNX.out.trans (by rw [if_pos h1]))
        have HA2 := Lib.hid (HAT.out k (by omega))
        clear HNX h1
        generalize dursum (L.take k) = z at HN2 HA2
        go_wp2_with fail
        refine (HSO.out b _ _ _ _ HB2.out (by omega)).mono ?_
        rintro e w8 ⟨ao, cc, sv, rows, base, rfl, ho, hap, hrd, hrm⟩
        have HAP := Lib.hid hap; have HRD := Lib.hid hrd; have HRM := Lib.hid hrm
        obtain ⟨ao2, c2, e2, -, r2⟩ := ho.get
        obtain ⟨ga, oa, e3, hxa⟩ := r2.here (by omega)
        have e4 : ao = some ⟨ga, oa, none⟩ := by injection e2 with h1; rw [h1, e3]
        subst e4
        have hxq := hxa k (by omega)
        rw [HA2.out] at hxq
        have hkA : k < A.length := by omega
        have HLN := Lib.hid (HSE.out k (by omega))
        have bl1 := (Below.refl w8.heap.size w8).alloc (Nat.le_refl _) (.cells #[.int .i64 z] 2)
        have HAP4 := Lib.hid (HAP.out.call bl1)
        have HRD4 := Lib.hid (HRD.out.below bl1)
        have hnc : (w8.alloc (.cells #[.int .i64 z] 2)).cell? ⟨w8.heap.size, 0, none⟩ = some (.int .i64 z) := by simp
        clear hap hrd hrm ho e2 e3 r2 hxa bl1 x3
        go_wp2_with (at_builtin; refine append_g _ rfl (.tmp 47) (.tmp 54) rfl base Tryz.underlying53 info64 _ _ rfl HAP4.out.ow _ z _ rfl hnc (by have := HLN.out; omega) HAP4.out.b0 ?_; intro v9 w9 o9 g9)
        have HB5 := Lib.hid (show SdSt w w9 b v _ L v9 (sendTo L d k ++ [z]) from ⟨HRD4.out.kept15 g9 HAP4.out.so_ (fun k hk => (HAP4.out.ow.block k hk).1), HRM.out, .inr ⟨sv, rows, base, HAP4.out.push o9 g9⟩⟩)
        clear o9 g9
        go_wp2_with fail
        go_roundw
        case rel => exact ⟨k + 1, by omega, by go_num, by rw [HN2.out]; exact HB5⟩
        case measure => simp [intOf]; omega
      · have h1b : (y.desc.node == d) = false := by simp [h1]
        have HN2 := Lib.hid (HNX.out.trans (by rw [if_neg h1, List.append_nil]))
        clear HNX h1
        go_wp2_with fail
        clear x3
        go_roundw
        case rel => exact ⟨k + 1, by omega, by go_num, by rw [HN2.out]; exact HB2⟩
        case measure => simp [intOf]; omega
    · have hkn : k = L.length := by omega
      subst hkn
      go_wp2_with fail
      go_ret2
      obtain ⟨-, -, h3⟩ := HS.out
      rcases h3 with ⟨-, a2, -, a4, a5⟩ | ⟨sv, rows, base, h⟩
      · exact ⟨_, rfl, by rw [a4, a5]; exact Own.nil_, a2⟩
      · exact ⟨_, rfl, h.ow.more h.b1, h.lu.be⟩
end
end Go.Proofs.YthihjhidjnadaaaGreat
