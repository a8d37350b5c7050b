/-
  Contracts of the program's, the model's and the laws' functions, and plain mathematics, on which a proof of this claim stands (part V).
-/

import Derived.Test.YthihjhidjnadaaaGreatP26U
import Derived.Test.YthihjhidjnadaaaGreatP26T
import Derived.Test.YthihjhidjnadaaaGreatP26N
import Derived.Test.YthihjhidjnadaaaGreatP26M
import Derived.Test.YthihjhidjnadaaaGreatP26X
import Derived.Test.YthihjhidjnadaaaGreatP26S
namespace Go.Proofs.YthihjhidjnadaaaGreat
section
open Go.RowKit
theorem Bs.s1 {w W : World} {B : Nat} {v : Mv} {x : Ss} (h : Bs w W B v x) : W.cell? ⟨B + 1, 0, none⟩ = some (.int .i64 x.t) ∧ W.cell? ⟨B + 1, 1, none⟩ = some (.int .i64 x.m) ∧ W.cell? ⟨B + 1, 2, none⟩ = some (.int .i64 x.r) ∧ W.cell? ⟨B + 1, 3, none⟩ = some (.int .i64 x.s) ∧ W.cell? ⟨B + 1, 4, none⟩ = some (.int .i64 x.k) ∧ W.cell? ⟨B, 2, none⟩ = some (.slice v.mo v.cs.length v.mc) :=
  ⟨h.s.1, h.s.2.1, h.s.2.2.1, h.s.2.2.2.1, h.s.2.2.2.2, h.m.2.2.1⟩
set_option linter.unusedSimpArgs false in
set_option maxRecDepth 100000 in
set_option maxHeartbeats 4000000 in
theorem l15Belongs_any (v : Mv) (x : Ss) (w : World) (hr : RdMe w v) (hw : Well v.me) :
    Calls Tryz.prog 131 #[mvVal v, ssVal x] w fun e w' => e = .returned (.bool (belongsB v.me x)) ∧ Below w.heap.size w w' := by
  have HX := Lib.hid (Bs.start (x := x) hr)
  have HIS := Lib.hid (fun W => (show Calls Tryz.prog 171 #[ssVal x] W fun e w' => e = .returned (.bool (isSs x)) ∧ Below W.heap.size W w' from sIsState_any x.t x.m x.r x.s x.k W))
  have HIM := Lib.hid (fun W => l11Mode_any v.mo v.cs.length v.mc x.m (mds v.cs) W (mds_len v.cs) hr.ml)
  rcases hS : isSs x with _ | _
  · have HF := Lib.hid (show belongsB v.me x = false from by unfold belongsB; rw [hS]; rfl)
    rw [hS] at HIS
    clear hS hr hw HIM
    unfold ssVal at HIS ⊢
    unfold mvVal
    go_enter Tryz.func131, Tryz.ntmps131
    go_upto_region 1 with fail
    generalize ((w.alloc (.cells #[.int .i64 v.id, .slice v.no v.n.length v.nc, .slice v.mo v.cs.length v.mc, .slice v.eo v.e.length v.ec] 28)).alloc (.cells #[.int .i64 x.t, .int .i64 x.m, .int .i64 x.r, .int .i64 x.s, .int .i64 x.k] 30)) = w1 at HX ⊢
    have HX1 := Lib.hid HX.out.drew
    have hq := HX1.out.s1
    clear HX
    refine wp_region_held_drew (S := fun w' => w'.cell? ⟨w.heap.size + 1, 0, none⟩ = some (.int .i64 x.t) ∧ w'.cell? ⟨w.heap.size + 1, 1, none⟩ = some (.int .i64 x.m) ∧ w'.cell? ⟨w.heap.size + 1, 2, none⟩ = some (.int .i64 x.r) ∧ w'.cell? ⟨w.heap.size + 1, 3, none⟩ = some (.int .i64 x.s) ∧ w'.cell? ⟨w.heap.size + 1, 4, none⟩ = some (.int .i64 x.k) ∧ w'.cell? ⟨w.heap.size, 2, none⟩ = some (.slice v.mo v.cs.length v.mc)) (by kernel_rfl) (hq) (fun hHeld => ?_)
    generalize w1.drew = wd at HX1 hq hHeld ⊢
    refine tk (i := 0) (v := ?_) rfl (Or.inl ⟨by rfl, ?_⟩) (by assumption) ?_
    rotate_left
    · (intro w hSw; (try dsimp only at hSw); go_simp; (try with_reducible rfl))
    try simp only [pa, pb, pc, Act.put, pe, pf, pg]
    refine wpAnyH_ready (rs := [1]) (by kernel_rfl) (by simp) (AllReadyH.cons rfl (fun K hK => ?_) AllReadyH.nil)
    go_simp
    refine (HIS.out _).mono ?_
    rintro e w2 ⟨rfl, b2⟩
    have HX2 := Lib.hid (HX1.out.call b2)
    have hq2 := HX2.out.s1
    go_wp2_with fail
    refine hK.out _ _ ?_ (fun hHeld => ?_)
    · exact hq2
    clear hK K
    try simp only [pa, pb, pc, Act.put, pe, pf, pg]
    refine tk (i := 2) (v := ?_) rfl (Or.inl ⟨by rfl, ?_⟩) (by assumption) ?_
    rotate_left
    · (intro w hSw; (try dsimp only at hSw); go_simp; (try with_reducible rfl))
    try simp only [pa, pb, pc, Act.put, pe, pf, pg]
    refine tk (i := 3) (v := ?_) rfl (Or.inl ⟨by rfl, ?_⟩) (by assumption) ?_
    rotate_left
    · (intro w hSw; (try dsimp only at hSw); go_simp; (try with_reducible rfl))
    try simp only [pa, pb, pc, Act.put, pe, pf, pg]
    refine tk (i := 4) (v := undef) rfl (Or.inr ⟨by rfl, rfl⟩) (by assumption) ?_
    try simp only [pa, pb, pc, Act.put, pe, pf, pg]
    refine tk (i := 5) (v := undef) rfl (Or.inr ⟨by rfl, rfl⟩) (by assumption) ?_
    try simp only [pa, pb, pc, Act.put, pe, pf, pg]
    refine tk (i := 6) (v := undef) rfl (Or.inr ⟨by rfl, rfl⟩) (by assumption) ?_
    try simp only [pa, pb, pc, Act.put, pe, pf, pg]
    refine tk (i := 7) (v := undef) rfl (Or.inr ⟨by rfl, rfl⟩) (by assumption) ?_
    try simp only [pa, pb, pc, Act.put, pe, pf, pg]
    refine tk (i := 8) (v := undef) rfl (Or.inr ⟨by rfl, rfl⟩) (by assumption) ?_
    try simp only [pa, pb, pc, Act.put, pe, pf, pg]
    refine tk (i := 9) (v := undef) rfl (Or.inr ⟨by rfl, rfl⟩) (by assumption) ?_
    try simp only [pa, pb, pc, Act.put, pe, pf, pg]
    refine tk (i := 10) (v := ?_) rfl (Or.inl ⟨by rfl, ?_⟩) (by assumption) ?_
    rotate_left
    · (intro w hSw; (try dsimp only at hSw); go_simp; (try with_reducible rfl))
    try simp only [pa, pb, pc, Act.put, pe, pf, pg]
    refine tk (i := 11) (v := ?_) rfl (Or.inl ⟨by rfl, ?_⟩) (by assumption) ?_
    rotate_left
    · (intro w hSw; (try dsimp only at hSw); go_simp; (try with_reducible rfl))
    try simp only [pa, pb, pc, Act.put, pe, pf, pg]
    refine tk (i := 12) (v := undef) rfl (Or.inr ⟨by rfl, rfl⟩) (by assumption) ?_
    try simp only [pa, pb, pc, Act.put, pe, pf, pg]
    refine tk (i := 13) (v := undef) rfl (Or.inr ⟨by rfl, rfl⟩) (by assumption) ?_
    try simp only [pa, pb, pc, Act.put, pe, pf, pg]
    refine tk (i := 14) (v := undef) rfl (Or.inr ⟨by rfl, rfl⟩) (by assumption) ?_
    try simp only [pa, pb, pc, Act.put, pe, pf, pg]
    refine tk (i := 15) (v := undef) rfl (Or.inr ⟨by rfl, rfl⟩) (by assumption) ?_
    try simp only [pa, pb, pc, Act.put, pe, pf, pg]
    refine tk (i := 16) (v := undef) rfl (Or.inr ⟨by rfl, rfl⟩) (by assumption) ?_
    try simp only [pa, pb, pc, Act.put, pe, pf, pg]
    refine tk (i := 17) (v := undef) rfl (Or.inr ⟨by rfl, rfl⟩) (by assumption) ?_
    try simp only [pa, pb, pc, Act.put, pe, pf, pg]
    refine tk (i := 18) (v := undef) rfl (Or.inr ⟨by rfl, rfl⟩) (by assumption) ?_
    try simp only [pa, pb, pc, Act.put, pe, pf, pg]
    refine tk (i := 19) (v := undef) rfl (Or.inr ⟨by rfl, rfl⟩) (by assumption) ?_
    try simp only [pa, pb, pc, Act.put, pe, pf, pg]
    refine tk (i := 20) (v := undef) rfl (Or.inr ⟨by rfl, rfl⟩) (by assumption) ?_
    try simp only [pa, pb, pc, Act.put, pe, pf, pg]
    refine tk (i := 21) (v := undef) rfl (Or.inr ⟨by rfl, rfl⟩) (by assumption) ?_
    try simp only [pa, pb, pc, Act.put, pe, pf, pg]
    refine tk (i := 22) (v := ?_) rfl (Or.inl ⟨by rfl, ?_⟩) (by assumption) ?_
    rotate_left
    · (intro w hSw; (try dsimp only at hSw); go_simp; (try with_reducible rfl))
    try simp only [pa, pb, pc, Act.put, pe, pf, pg]
    refine tk (i := 23) (v := ?_) rfl (Or.inl ⟨by rfl, ?_⟩) (by assumption) ?_
    rotate_left
    · (intro w hSw; (try dsimp only at hSw); go_simp; (try with_reducible rfl))
    try simp only [pa, pb, pc, Act.put, pe, pf, pg]
    refine tk (i := 24) (v := undef) rfl (Or.inr ⟨by rfl, rfl⟩) (by assumption) ?_
    try simp only [pa, pb, pc, Act.put, pe, pf, pg]
    refine tk (i := 25) (v := undef) rfl (Or.inr ⟨by rfl, rfl⟩) (by assumption) ?_
    try simp only [pa, pb, pc, Act.put, pe, pf, pg]
    refine tk (i := 26) (v := undef) rfl (Or.inr ⟨by rfl, rfl⟩) (by assumption) ?_
    try simp only [pa, pb, pc, Act.put, pe, pf, pg]
    refine tk (i := 27) (v := undef) rfl (Or.inr ⟨by rfl, rfl⟩) (by assumption) ?_
    try simp only [pa, pb, pc, Act.put, pe, pf, pg]
    refine tk (i := 28) (v := undef) rfl (Or.inr ⟨by rfl, rfl⟩) (by assumption) ?_
    try simp only [pa, pb, pc, Act.put, pe, pf, pg]
    refine tk (i := 29) (v := undef) rfl (Or.inr ⟨by rfl, rfl⟩) (by assumption) ?_
    try simp only [pa, pb, pc, Act.put, pe, pf, pg]
    refine tk (i := 30) (v := undef) rfl (Or.inr ⟨by rfl, rfl⟩) (by assumption) ?_
    try simp only [pa, pb, pc, Act.put, pe, pf, pg]
    refine tk (i := 31) (v := undef) rfl (Or.inr ⟨by rfl, rfl⟩) (by assumption) ?_
    try simp only [pa, pb, pc, Act.put, pe, pf, pg]
    refine tk (i := 32) (v := undef) rfl (Or.inr ⟨by rfl, rfl⟩) (by assumption) ?_
    try simp only [pa, pb, pc, Act.put, pe, pf, pg]
    refine tk (i := 33) (v := undef) rfl (Or.inr ⟨by rfl, rfl⟩) (by assumption) ?_
    try simp only [pa, pb, pc, Act.put, pe, pf, pg]
    refine tk (i := 34) (v := ?_) rfl (Or.inl ⟨by rfl, ?_⟩) (by assumption) ?_
    rotate_left
    · (intro w hSw; (try dsimp only at hSw); go_simp; (try with_reducible rfl))
    try simp only [pa, pb, pc, Act.put, pe, pf, pg]
    refine wpAnyH_done (by kernel_rfl) ?_ _
    clear hq hq2
    go_wp2_with fail
    go_ret
    rw [HF.out]
    exact ⟨rfl, HX2.out.bx.below⟩
  rcases hM : isMode v.me.modes x.m with _ | _
  · have HF := Lib.hid (show belongsB v.me x = false from by unfold belongsB; rw [hM]; simp)
    rw [hS] at HIS
    rw [show isMode (mds v.cs) x.m = false from hM] at HIM
    clear hS hr hw hM
    unfold ssVal at HIS ⊢
    unfold mvVal
    go_enter Tryz.func131, Tryz.ntmps131
    go_upto_region 1 with fail
    generalize ((w.alloc (.cells #[.int .i64 v.id, .slice v.no v.n.length v.nc, .slice v.mo v.cs.length v.mc, .slice v.eo v.e.length v.ec] 28)).alloc (.cells #[.int .i64 x.t, .int .i64 x.m, .int .i64 x.r, .int .i64 x.s, .int .i64 x.k] 30)) = w1 at HX ⊢
    have HX1 := Lib.hid HX.out.drew
    have hq := HX1.out.s1
    clear HX
    refine wp_region_held_drew (S := fun w' => w'.cell? ⟨w.heap.size + 1, 0, none⟩ = some (.int .i64 x.t) ∧ w'.cell? ⟨w.heap.size + 1, 1, none⟩ = some (.int .i64 x.m) ∧ w'.cell? ⟨w.heap.size + 1, 2, none⟩ = some (.int .i64 x.r) ∧ w'.cell? ⟨w.heap.size + 1, 3, none⟩ = some (.int .i64 x.s) ∧ w'.cell? ⟨w.heap.size + 1, 4, none⟩ = some (.int .i64 x.k) ∧ w'.cell? ⟨w.heap.size, 2, none⟩ = some (.slice v.mo v.cs.length v.mc)) (by kernel_rfl) (hq) (fun hHeld => ?_)
    generalize w1.drew = wd at HX1 hq hHeld ⊢
    refine tk (i := 0) (v := ?_) rfl (Or.inl ⟨by rfl, ?_⟩) (by assumption) ?_
    rotate_left
    · (intro w hSw; (try dsimp only at hSw); go_simp; (try with_reducible rfl))
    try simp only [pa, pb, pc, Act.put, pe, pf, pg]
    refine wpAnyH_ready (rs := [1]) (by kernel_rfl) (by simp) (AllReadyH.cons rfl (fun K hK => ?_) AllReadyH.nil)
    go_simp
    refine (HIS.out _).mono ?_
    rintro e w2 ⟨rfl, b2⟩
    have HX2 := Lib.hid (HX1.out.call b2)
    have hq2 := HX2.out.s1
    go_wp2_with fail
    refine hK.out _ _ ?_ (fun hHeld => ?_)
    · exact hq2
    clear hK K
    try simp only [pa, pb, pc, Act.put, pe, pf, pg]
    refine tk (i := 2) (v := ?_) rfl (Or.inl ⟨by rfl, ?_⟩) (by assumption) ?_
    rotate_left
    · (intro w hSw; (try dsimp only at hSw); go_simp; (try with_reducible rfl))
    try simp only [pa, pb, pc, Act.put, pe, pf, pg]
    refine tk (i := 3) (v := ?_) rfl (Or.inl ⟨by rfl, ?_⟩) (by assumption) ?_
    rotate_left
    · (intro w hSw; (try dsimp only at hSw); go_simp; (try with_reducible rfl))
    try simp only [pa, pb, pc, Act.put, pe, pf, pg]
    refine tk (i := 4) (v := ?_) rfl (Or.inl ⟨by rfl, ?_⟩) (by assumption) ?_
    rotate_left
    · (intro w hSw; (try dsimp only at hSw); go_simp; (try with_reducible rfl))
    try simp only [pa, pb, pc, Act.put, pe, pf, pg]
    refine tk (i := 5) (v := ?_) rfl (Or.inl ⟨by rfl, ?_⟩) (by assumption) ?_
    rotate_left
    · (intro w hSw; (try dsimp only at hSw); go_simp; (try with_reducible rfl))
    try simp only [pa, pb, pc, Act.put, pe, pf, pg]
    refine tk (i := 6) (v := ?_) rfl (Or.inl ⟨by rfl, ?_⟩) (by assumption) ?_
    rotate_left
    · (intro w hSw; (try dsimp only at hSw); go_simp; (try with_reducible rfl))
    try simp only [pa, pb, pc, Act.put, pe, pf, pg]
    refine tk (i := 7) (v := ?_) rfl (Or.inl ⟨by rfl, ?_⟩) (by assumption) ?_
    rotate_left
    · (intro w hSw; (try dsimp only at hSw); go_simp; (try with_reducible rfl))
    try simp only [pa, pb, pc, Act.put, pe, pf, pg]
    refine wpAnyH_ready (rs := [8]) (by kernel_rfl) (by simp) (AllReadyH.cons rfl (fun K hK => ?_) AllReadyH.nil)
    go_simp
    refine (HIM.out _).mono ?_
    rintro e w3 ⟨rfl, rfl⟩
    go_wp2_with fail
    refine hK.out _ _ ?_ (fun hHeld => ?_)
    · exact hq2
    clear hK K
    try simp only [pa, pb, pc, Act.put, pe, pf, pg]
    refine tk (i := 9) (v := ?_) rfl (Or.inl ⟨by rfl, ?_⟩) (by assumption) ?_
    rotate_left
    · (intro w hSw; (try dsimp only at hSw); go_simp; (try with_reducible rfl))
    try simp only [pa, pb, pc, Act.put, pe, pf, pg]
    refine tk (i := 10) (v := ?_) rfl (Or.inl ⟨by rfl, ?_⟩) (by assumption) ?_
    rotate_left
    · (intro w hSw; (try dsimp only at hSw); go_simp; (try with_reducible rfl))
    try simp only [pa, pb, pc, Act.put, pe, pf, pg]
    refine tk (i := 11) (v := ?_) rfl (Or.inl ⟨by rfl, ?_⟩) (by assumption) ?_
    rotate_left
    · (intro w hSw; (try dsimp only at hSw); go_simp; (try with_reducible rfl))
    try simp only [pa, pb, pc, Act.put, pe, pf, pg]
    refine tk (i := 12) (v := undef) rfl (Or.inr ⟨by rfl, rfl⟩) (by assumption) ?_
    try simp only [pa, pb, pc, Act.put, pe, pf, pg]
    refine tk (i := 13) (v := undef) rfl (Or.inr ⟨by rfl, rfl⟩) (by assumption) ?_
    try simp only [pa, pb, pc, Act.put, pe, pf, pg]
    refine tk (i := 14) (v := undef) rfl (Or.inr ⟨by rfl, rfl⟩) (by assumption) ?_
    try simp only [pa, pb, pc, Act.put, pe, pf, pg]
    refine tk (i := 15) (v := undef) rfl (Or.inr ⟨by rfl, rfl⟩) (by assumption) ?_
    try simp only [pa, pb, pc, Act.put, pe, pf, pg]
    refine tk (i := 16) (v := undef) rfl (Or.inr ⟨by rfl, rfl⟩) (by assumption) ?_
    try simp only [pa, pb, pc, Act.put, pe, pf, pg]
    refine tk (i := 17) (v := undef) rfl (Or.inr ⟨by rfl, rfl⟩) (by assumption) ?_
    try simp only [pa, pb, pc, Act.put, pe, pf, pg]
    refine tk (i := 18) (v := undef) rfl (Or.inr ⟨by rfl, rfl⟩) (by assumption) ?_
    try simp only [pa, pb, pc, Act.put, pe, pf, pg]
    refine tk (i := 19) (v := undef) rfl (Or.inr ⟨by rfl, rfl⟩) (by assumption) ?_
    try simp only [pa, pb, pc, Act.put, pe, pf, pg]
    refine tk (i := 20) (v := undef) rfl (Or.inr ⟨by rfl, rfl⟩) (by assumption) ?_
    try simp only [pa, pb, pc, Act.put, pe, pf, pg]
    refine tk (i := 21) (v := undef) rfl (Or.inr ⟨by rfl, rfl⟩) (by assumption) ?_
    try simp only [pa, pb, pc, Act.put, pe, pf, pg]
    refine tk (i := 22) (v := ?_) rfl (Or.inl ⟨by rfl, ?_⟩) (by assumption) ?_
    rotate_left
    · (intro w hSw; (try dsimp only at hSw); go_simp; (try with_reducible rfl))
    try simp only [pa, pb, pc, Act.put, pe, pf, pg]
    refine tk (i := 23) (v := ?_) rfl (Or.inl ⟨by rfl, ?_⟩) (by assumption) ?_
    rotate_left
    · (intro w hSw; (try dsimp only at hSw); go_simp; (try with_reducible rfl))
    try simp only [pa, pb, pc, Act.put, pe, pf, pg]
    refine tk (i := 24) (v := undef) rfl (Or.inr ⟨by rfl, rfl⟩) (by assumption) ?_
    try simp only [pa, pb, pc, Act.put, pe, pf, pg]
    refine tk (i := 25) (v := undef) rfl (Or.inr ⟨by rfl, rfl⟩) (by assumption) ?_
    try simp only [pa, pb, pc, Act.put, pe, pf, pg]
    refine tk (i := 26) (v := undef) rfl (Or.inr ⟨by rfl, rfl⟩) (by assumption) ?_
    try simp only [pa, pb, pc, Act.put, pe, pf, pg]
    refine tk (i := 27) (v := undef) rfl (Or.inr ⟨by rfl, rfl⟩) (by assumption) ?_
    try simp only [pa, pb, pc, Act.put, pe, pf, pg]
    refine tk (i := 28) (v := undef) rfl (Or.inr ⟨by rfl, rfl⟩) (by assumption) ?_
    try simp only [pa, pb, pc, Act.put, pe, pf, pg]
    refine tk (i := 29) (v := undef) rfl (Or.inr ⟨by rfl, rfl⟩) (by assumption) ?_
    try simp only [pa, pb, pc, Act.put, pe, pf, pg]
    refine tk (i := 30) (v := undef) rfl (Or.inr ⟨by rfl, rfl⟩) (by assumption) ?_
    try simp only [pa, pb, pc, Act.put, pe, pf, pg]
    refine tk (i := 31) (v := undef) rfl (Or.inr ⟨by rfl, rfl⟩) (by assumption) ?_
    try simp only [pa, pb, pc, Act.put, pe, pf, pg]
    refine tk (i := 32) (v := undef) rfl (Or.inr ⟨by rfl, rfl⟩) (by assumption) ?_
    try simp only [pa, pb, pc, Act.put, pe, pf, pg]
    refine tk (i := 33) (v := undef) rfl (Or.inr ⟨by rfl, rfl⟩) (by assumption) ?_
    try simp only [pa, pb, pc, Act.put, pe, pf, pg]
    refine tk (i := 34) (v := ?_) rfl (Or.inl ⟨by rfl, ?_⟩) (by assumption) ?_
    rotate_left
    · (intro w hSw; (try dsimp only at hSw); go_simp; (try with_reducible rfl))
    try simp only [pa, pb, pc, Act.put, pe, pf, pg]
    refine wpAnyH_done (by kernel_rfl) ?_ _
    clear hq hq2
    go_wp2_with fail
    go_ret
    rw [HF.out]
    exact ⟨rfl, HX2.out.bx.below⟩
  obtain ⟨j, hj, hjl⟩ := mode_nat hM
  have hjc : j < v.cs.length := by have e : v.me.modes.length = v.cs.length := mds_len v.cs; omega
  have hk := isState_iff.1 (show isState x.t x.m x.r x.s x.k = true from hS)
  have HF := Lib.hid (show belongsB v.me x = (decide (x.r < (mcOf v.cs j).md.rounds) && (decide (x.s < (mcOf v.cs j).md.slots) && decide (x.k.toNat &&& actv v.me = x.k.toNat))) from by
    unfold belongsB
    rw [hS, hM, hj, Int.toNat_natCast, mdOf_me]; simp)
  have HAC := Lib.hid (fun W (hW : RdMe W v) => l10Active_any v.no v.n.length v.nc v.n W hW.rn (Nat.le_trans hW.nle hW.ncap) hw.r2)
  have hal := actv_lt (m := v.me) hw.r2
  have HZ := Lib.hid (show (bits .and .i64 x.k ((actv v.me : Nat) : Int) == x.k) = decide (x.k.toNat &&& actv v.me = x.k.toNat) from by
    have := and_nat x.k.toNat (actv v.me) (by omega) (by omega)
    rw [Int.toNat_of_nonneg hk.2.2.2.2.1] at this
    rw [this, Bool.eq_iff_iff, beq_iff_eq, decide_eq_true_eq]
    omega)
  rw [hS] at HIS
  rw [show isMode (mds v.cs) x.m = true from hM] at HIM
  have HMD := Lib.hid (fun W (hW : RdMe W v) => hW.rm.at hjc)
  change Hid (∀ W, RdMe W v → Calls _ _ _ W fun e w' => e = .returned (.int .i64 ((actv v.me : Nat) : Int)) ∧ _) at HAC
  generalize actv v.me = ac at HAC HZ HF
  clear hS hM hjl hr hw hk hal
  obtain ⟨t, m, r, s, k⟩ := x
  dsimp only at hj
  subst hj
  generalize belongsB v.me ⟨t, (j : Int), r, s, k⟩ = res at HF ⊢
  dsimp only at HF HZ HIM
  generalize mcOf v.cs j = c at HF HMD
  obtain ⟨g, off, e0, hg, hx, -⟩ := HMD.out _ HX.out.bx.rd
  have E0 := Lib.hid e0
  clear e0
  unfold ssVal at HIS ⊢
  unfold mvVal
  by_cases h1 : r < c.md.rounds
  · have h1b : decide (c.md.rounds ≤ r) = false := by simp; omega
    have hIM := HIM.out; rw [E0.out] at hIM; have HIM := Lib.hid hIM; clear hIM
    by_cases h2 : s < c.md.slots
    · have h2b : decide (c.md.slots ≤ s) = false := by simp; omega
      have HG := Lib.hid (show res = decide (k.toNat &&& ac = k.toNat) from by rw [HF.out, decide_eq_true h1, decide_eq_true h2]; rfl)
      clear HF
      go_enter Tryz.func131, Tryz.ntmps131
      go_upto_region 1 with fail
      dsimp only at HX hx
      generalize ((w.alloc (.cells #[.int .i64 v.id, .slice v.no v.n.length v.nc, .slice v.mo v.cs.length v.mc, .slice v.eo v.e.length v.ec] 28)).alloc (.cells #[.int .i64 t, .int .i64 (j : Int), .int .i64 r, .int .i64 s, .int .i64 k] 30)) = w1 at HX hx ⊢
      have HX1 := Lib.hid HX.out.drew
      have HM1 := Lib.hid (hx.below (Below.drew (Below.refl _ _)) hx.lt)
      have h2c := HX1.out.m.2.2.1
      rw [E0.out] at h2c
      have hq : w1.drew.cell? ⟨w.heap.size + 1, 0, none⟩ = some (.int .i64 t) ∧ w1.drew.cell? ⟨w.heap.size + 1, 1, none⟩ = some (.int .i64 (j : Int)) ∧ w1.drew.cell? ⟨w.heap.size + 1, 2, none⟩ = some (.int .i64 r) ∧ w1.drew.cell? ⟨w.heap.size + 1, 3, none⟩ = some (.int .i64 s) ∧ w1.drew.cell? ⟨w.heap.size + 1, 4, none⟩ = some (.int .i64 k) ∧ w1.drew.cell? ⟨w.heap.size, 2, none⟩ = some (.slice (some ⟨g, off, none⟩) v.cs.length v.mc) ∧ w1.drew.cell? ⟨g, off + j * 3, none⟩ = some (.int .i64 c.md.rounds) ∧ w1.drew.cell? ⟨g, off + j * 3 + 1, none⟩ = some (.int .i64 c.md.slots) := ⟨HX1.out.s.1, HX1.out.s.2.1, HX1.out.s.2.2.1, HX1.out.s.2.2.2.1, HX1.out.s.2.2.2.2, h2c, HM1.out.c0, HM1.out.c1⟩
      clear HX hx h2c
      refine wp_region_held_drew (S := fun w' => w'.cell? ⟨w.heap.size + 1, 0, none⟩ = some (.int .i64 t) ∧ w'.cell? ⟨w.heap.size + 1, 1, none⟩ = some (.int .i64 (j : Int)) ∧ w'.cell? ⟨w.heap.size + 1, 2, none⟩ = some (.int .i64 r) ∧ w'.cell? ⟨w.heap.size + 1, 3, none⟩ = some (.int .i64 s) ∧ w'.cell? ⟨w.heap.size + 1, 4, none⟩ = some (.int .i64 k) ∧ w'.cell? ⟨w.heap.size, 2, none⟩ = some (.slice (some ⟨g, off, none⟩) v.cs.length v.mc) ∧ w'.cell? ⟨g, off + j * 3, none⟩ = some (.int .i64 c.md.rounds) ∧ w'.cell? ⟨g, off + j * 3 + 1, none⟩ = some (.int .i64 c.md.slots)) (by kernel_rfl) (hq) (fun hHeld => ?_)
      generalize w1.drew = wd at HX1 HM1 hq hHeld ⊢
      refine tk (i := 0) (v := ?_) rfl (Or.inl ⟨by rfl, ?_⟩) (by assumption) ?_
      rotate_left
      · (intro w hSw; (try dsimp only at hSw); go_simp; (try with_reducible rfl))
      try simp only [pa, pb, pc, Act.put, pe, pf, pg]
      refine wpAnyH_ready (rs := [1]) (by kernel_rfl) (by simp) (AllReadyH.cons rfl (fun K hK => ?_) AllReadyH.nil)
      go_simp
      refine (HIS.out _).mono ?_
      rintro e w2 ⟨rfl, b2⟩
      have HX2 := Lib.hid (HX1.out.call b2)
      have HM2 := Lib.hid (HM1.out.below b2 HM1.out.lt)
      have h2c := HX2.out.m.2.2.1
      rw [E0.out] at h2c
      have hq2 : w2.cell? ⟨w.heap.size + 1, 0, none⟩ = some (.int .i64 t) ∧ w2.cell? ⟨w.heap.size + 1, 1, none⟩ = some (.int .i64 (j : Int)) ∧ w2.cell? ⟨w.heap.size + 1, 2, none⟩ = some (.int .i64 r) ∧ w2.cell? ⟨w.heap.size + 1, 3, none⟩ = some (.int .i64 s) ∧ w2.cell? ⟨w.heap.size + 1, 4, none⟩ = some (.int .i64 k) ∧ w2.cell? ⟨w.heap.size, 2, none⟩ = some (.slice (some ⟨g, off, none⟩) v.cs.length v.mc) ∧ w2.cell? ⟨g, off + j * 3, none⟩ = some (.int .i64 c.md.rounds) ∧ w2.cell? ⟨g, off + j * 3 + 1, none⟩ = some (.int .i64 c.md.slots) := ⟨HX2.out.s.1, HX2.out.s.2.1, HX2.out.s.2.2.1, HX2.out.s.2.2.2.1, HX2.out.s.2.2.2.2, h2c, HM2.out.c0, HM2.out.c1⟩
      go_wp2_with fail
      refine hK.out _ _ ?_ (fun hHeld => ?_)
      · exact hq2
      clear hK K
      try simp only [pa, pb, pc, Act.put, pe, pf, pg]
      refine tk (i := 2) (v := ?_) rfl (Or.inl ⟨by rfl, ?_⟩) (by assumption) ?_
      rotate_left
      · (intro w hSw; (try dsimp only at hSw); go_simp; (try with_reducible rfl))
      try simp only [pa, pb, pc, Act.put, pe, pf, pg]
      refine tk (i := 3) (v := ?_) rfl (Or.inl ⟨by rfl, ?_⟩) (by assumption) ?_
      rotate_left
      · (intro w hSw; (try dsimp only at hSw); go_simp; (try with_reducible rfl))
      try simp only [pa, pb, pc, Act.put, pe, pf, pg]
      refine tk (i := 4) (v := ?_) rfl (Or.inl ⟨by rfl, ?_⟩) (by assumption) ?_
      rotate_left
      · (intro w hSw; (try dsimp only at hSw); go_simp; (try with_reducible rfl))
      try simp only [pa, pb, pc, Act.put, pe, pf, pg]
      refine tk (i := 5) (v := ?_) rfl (Or.inl ⟨by rfl, ?_⟩) (by assumption) ?_
      rotate_left
      · (intro w hSw; (try dsimp only at hSw); go_simp; (try with_reducible rfl))
      try simp only [pa, pb, pc, Act.put, pe, pf, pg]
      refine tk (i := 6) (v := ?_) rfl (Or.inl ⟨by rfl, ?_⟩) (by assumption) ?_
      rotate_left
      · (intro w hSw; (try dsimp only at hSw); go_simp; (try with_reducible rfl))
      try simp only [pa, pb, pc, Act.put, pe, pf, pg]
      refine tk (i := 7) (v := ?_) rfl (Or.inl ⟨by rfl, ?_⟩) (by assumption) ?_
      rotate_left
      · (intro w hSw; (try dsimp only at hSw); go_simp; (try with_reducible rfl))
      try simp only [pa, pb, pc, Act.put, pe, pf, pg]
      refine wpAnyH_ready (rs := [8]) (by kernel_rfl) (by simp) (AllReadyH.cons rfl (fun K hK => ?_) AllReadyH.nil)
      go_simp
      refine (HIM.out _).mono ?_
      rintro e w3 ⟨rfl, rfl⟩
      go_wp2_with fail
      refine hK.out _ _ ?_ (fun hHeld => ?_)
      · exact hq2
      clear hK K
      try simp only [pa, pb, pc, Act.put, pe, pf, pg]
      refine tk (i := 9) (v := ?_) rfl (Or.inl ⟨by rfl, ?_⟩) (by assumption) ?_
      rotate_left
      · (intro w hSw; (try dsimp only at hSw); go_simp; (try with_reducible rfl))
      try simp only [pa, pb, pc, Act.put, pe, pf, pg]
      refine tk (i := 10) (v := ?_) rfl (Or.inl ⟨by rfl, ?_⟩) (by assumption) ?_
      rotate_left
      · (intro w hSw; (try dsimp only at hSw); go_simp; (try with_reducible rfl))
      try simp only [pa, pb, pc, Act.put, pe, pf, pg]
      refine tk (i := 11) (v := ?_) rfl (Or.inl ⟨by rfl, ?_⟩) (by assumption) ?_
      rotate_left
      · (intro w hSw; (try dsimp only at hSw); go_simp; (try with_reducible rfl))
      try simp only [pa, pb, pc, Act.put, pe, pf, pg]
      refine tk (i := 12) (v := ?_) rfl (Or.inl ⟨by rfl, ?_⟩) (by assumption) ?_
      rotate_left
      · (intro w hSw; (try dsimp only at hSw); go_simp; (try with_reducible rfl))
      try simp only [pa, pb, pc, Act.put, pe, pf, pg]
      refine tk (i := 13) (v := ?_) rfl (Or.inl ⟨by rfl, ?_⟩) (by assumption) ?_
      rotate_left
      · (intro w hSw; (try dsimp only at hSw); go_simp; (try with_reducible rfl))
      try simp only [pa, pb, pc, Act.put, pe, pf, pg]
      refine tk (i := 14) (v := ?_) rfl (Or.inl ⟨by rfl, ?_⟩) (by assumption) ?_
      rotate_left
      · (intro w hSw; (try dsimp only at hSw); go_simp; (try with_reducible rfl))
      try simp only [pa, pb, pc, Act.put, pe, pf, pg]
      refine tk (i := 15) (v := ?_) rfl (Or.inl ⟨by rfl, ?_⟩) (by assumption) ?_
      rotate_left
      · (intro w hSw; (try dsimp only at hSw); go_simp; (try with_reducible rfl))
      try simp only [pa, pb, pc, Act.put, pe, pf, pg]
      refine tk (i := 16) (v := ?_) rfl (Or.inl ⟨by rfl, ?_⟩) (by assumption) ?_
      rotate_left
      · (intro w hSw; (try dsimp only at hSw); go_simp; (try with_reducible rfl))
      try simp only [pa, pb, pc, Act.put, pe, pf, pg]
      refine tk (i := 17) (v := ?_) rfl (Or.inl ⟨by rfl, ?_⟩) (by assumption) ?_
      rotate_left
      · (intro w hSw; (try dsimp only at hSw); go_simp; (try with_reducible rfl))
      try simp only [pa, pb, pc, Act.put, pe, pf, pg]
      refine tk (i := 18) (v := ?_) rfl (Or.inl ⟨by rfl, ?_⟩) (by assumption) ?_
      rotate_left
      · (intro w hSw; (try dsimp only at hSw); go_simp; (try with_reducible rfl))
      try simp only [pa, pb, pc, Act.put, pe, pf, pg]
      refine tk (i := 19) (v := ?_) rfl (Or.inl ⟨by rfl, ?_⟩) (by assumption) ?_
      rotate_left
      · (intro w hSw; (try dsimp only at hSw); go_simp; (try with_reducible rfl))
      try simp only [pa, pb, pc, Act.put, pe, pf, pg]
      refine tk (i := 20) (v := ?_) rfl (Or.inl ⟨by rfl, ?_⟩) (by assumption) ?_
      rotate_left
      · (intro w hSw; (try dsimp only at hSw); go_simp; (try with_reducible rfl))
      try simp only [pa, pb, pc, Act.put, pe, pf, pg]
      refine tk (i := 21) (v := ?_) rfl (Or.inl ⟨by rfl, ?_⟩) (by assumption) ?_
      rotate_left
      · (intro w hSw; (try dsimp only at hSw); go_simp; (try with_reducible rfl))
      try simp only [pa, pb, pc, Act.put, pe, pf, pg]
      refine tk (i := 22) (v := ?_) rfl (Or.inl ⟨by rfl, ?_⟩) (by assumption) ?_
      rotate_left
      · (intro w hSw; (try dsimp only at hSw); go_simp; (try with_reducible rfl))
      try simp only [pa, pb, pc, Act.put, pe, pf, pg]
      refine tk (i := 23) (v := ?_) rfl (Or.inl ⟨by rfl, ?_⟩) (by assumption) ?_
      rotate_left
      · (intro w hSw; (try dsimp only at hSw); go_simp; (try with_reducible rfl))
      try simp only [pa, pb, pc, Act.put, pe, pf, pg]
      refine tk (i := 24) (v := ?_) rfl (Or.inl ⟨by rfl, ?_⟩) (by assumption) ?_
      rotate_left
      · (intro w hSw; (try dsimp only at hSw); go_simp; (try with_reducible rfl))
      try simp only [pa, pb, pc, Act.put, pe, pf, pg]
      refine tk (i := 25) (v := ?_) rfl (Or.inl ⟨by rfl, ?_⟩) (by assumption) ?_
      rotate_left
      · (intro w hSw; (try dsimp only at hSw); go_simp; (try with_reducible rfl))
      try simp only [pa, pb, pc, Act.put, pe, pf, pg]
      refine tk (i := 26) (v := ?_) rfl (Or.inl ⟨by rfl, ?_⟩) (by assumption) ?_
      rotate_left
      · (intro w hSw; (try dsimp only at hSw); go_simp; (try with_reducible rfl))
      try simp only [pa, pb, pc, Act.put, pe, pf, pg]
      refine tk (i := 27) (v := ?_) rfl (Or.inl ⟨by rfl, ?_⟩) (by assumption) ?_
      rotate_left
      · (intro w hSw; (try dsimp only at hSw); go_simp; (try with_reducible rfl))
      try simp only [pa, pb, pc, Act.put, pe, pf, pg]
      refine tk (i := 28) (v := ?_) rfl (Or.inl ⟨by rfl, ?_⟩) (by assumption) ?_
      rotate_left
      · (intro w hSw; (try dsimp only at hSw); go_simp; (try with_reducible rfl))
      try simp only [pa, pb, pc, Act.put, pe, pf, pg]
      refine tk (i := 29) (v := ?_) rfl (Or.inl ⟨by rfl, ?_⟩) (by assumption) ?_
      rotate_left
      · (intro w hSw; (try dsimp only at hSw); go_simp; (try with_reducible rfl))
      try simp only [pa, pb, pc, Act.put, pe, pf, pg]
      refine tk (i := 30) (v := ?_) rfl (Or.inl ⟨by rfl, ?_⟩) (by assumption) ?_
      rotate_left
      · (intro w hSw; (try dsimp only at hSw); go_simp; (try with_reducible rfl))
      try simp only [pa, pb, pc, Act.put, pe, pf, pg]
      refine tk (i := 31) (v := ?_) rfl (Or.inl ⟨by rfl, ?_⟩) (by assumption) ?_
      rotate_left
      · (intro w hSw; (try dsimp only at hSw); go_simp; (try with_reducible rfl))
      try simp only [pa, pb, pc, Act.put, pe, pf, pg]
      refine tk (i := 32) (v := ?_) rfl (Or.inl ⟨by rfl, ?_⟩) (by assumption) ?_
      rotate_left
      · (intro w hSw; (try dsimp only at hSw); go_simp; (try with_reducible rfl))
      try simp only [pa, pb, pc, Act.put, pe, pf, pg]
      refine tk (i := 33) (v := ?_) rfl (Or.inl ⟨by rfl, ?_⟩) (by assumption) ?_
      rotate_left
      · (intro w hSw; (try dsimp only at hSw); go_simp; (try with_reducible rfl))
      try simp only [pa, pb, pc, Act.put, pe, pf, pg]
      refine tk (i := 34) (v := ?_) rfl (Or.inl ⟨by rfl, ?_⟩) (by assumption) ?_
      rotate_left
      · (intro w hSw; (try dsimp only at hSw); go_simp; (try with_reducible rfl))
      try simp only [pa, pb, pc, Act.put, pe, pf, pg]
      refine wpAnyH_done (by kernel_rfl) ?_ _
      clear hq2
      go_upto_region 3 with fail
      have HXC := Lib.hid HX2.out.drew
      go_region_held3 (fun w' => w'.cell? ⟨w.heap.size + 1, 4, none⟩ = some (.int .i64 k) ∧ w'.cell? ⟨w.heap.size, 1, none⟩ = some (.slice v.no v.n.length v.nc))
        (exact ⟨HXC.out.s.2.2.2.2, HXC.out.m.2.1⟩)
        ((go_at_call 126; (with_reducible refine (HAC.out _ HXC.out.bx.rd).mono ?_); rintro e w6 ⟨rfl, rfl⟩))
      have h3 := HZ.out
      generalize (bits .and .i64 k (ac : Int) == k) = q at h3 ⊢
      go_wp2_with fail
      go_ret
      rw [HG.out, ← h3]
      exact ⟨rfl, HXC.out.bx.below⟩
    · have h2b : decide (c.md.slots ≤ s) = true := by simp; omega
      have HG := Lib.hid (show res = false from by rw [HF.out, decide_eq_true h1, decide_eq_false h2]; rfl)
      clear HF HZ HAC
      go_enter Tryz.func131, Tryz.ntmps131
      go_upto_region 1 with fail
      dsimp only at HX hx
      generalize ((w.alloc (.cells #[.int .i64 v.id, .slice v.no v.n.length v.nc, .slice v.mo v.cs.length v.mc, .slice v.eo v.e.length v.ec] 28)).alloc (.cells #[.int .i64 t, .int .i64 (j : Int), .int .i64 r, .int .i64 s, .int .i64 k] 30)) = w1 at HX hx ⊢
      have HX1 := Lib.hid HX.out.drew
      have HM1 := Lib.hid (hx.below (Below.drew (Below.refl _ _)) hx.lt)
      have h2c := HX1.out.m.2.2.1
      rw [E0.out] at h2c
      have hq : w1.drew.cell? ⟨w.heap.size + 1, 0, none⟩ = some (.int .i64 t) ∧ w1.drew.cell? ⟨w.heap.size + 1, 1, none⟩ = some (.int .i64 (j : Int)) ∧ w1.drew.cell? ⟨w.heap.size + 1, 2, none⟩ = some (.int .i64 r) ∧ w1.drew.cell? ⟨w.heap.size + 1, 3, none⟩ = some (.int .i64 s) ∧ w1.drew.cell? ⟨w.heap.size + 1, 4, none⟩ = some (.int .i64 k) ∧ w1.drew.cell? ⟨w.heap.size, 2, none⟩ = some (.slice (some ⟨g, off, none⟩) v.cs.length v.mc) ∧ w1.drew.cell? ⟨g, off + j * 3, none⟩ = some (.int .i64 c.md.rounds) ∧ w1.drew.cell? ⟨g, off + j * 3 + 1, none⟩ = some (.int .i64 c.md.slots) := ⟨HX1.out.s.1, HX1.out.s.2.1, HX1.out.s.2.2.1, HX1.out.s.2.2.2.1, HX1.out.s.2.2.2.2, h2c, HM1.out.c0, HM1.out.c1⟩
      clear HX hx h2c
      refine wp_region_held_drew (S := fun w' => w'.cell? ⟨w.heap.size + 1, 0, none⟩ = some (.int .i64 t) ∧ w'.cell? ⟨w.heap.size + 1, 1, none⟩ = some (.int .i64 (j : Int)) ∧ w'.cell? ⟨w.heap.size + 1, 2, none⟩ = some (.int .i64 r) ∧ w'.cell? ⟨w.heap.size + 1, 3, none⟩ = some (.int .i64 s) ∧ w'.cell? ⟨w.heap.size + 1, 4, none⟩ = some (.int .i64 k) ∧ w'.cell? ⟨w.heap.size, 2, none⟩ = some (.slice (some ⟨g, off, none⟩) v.cs.length v.mc) ∧ w'.cell? ⟨g, off + j * 3, none⟩ = some (.int .i64 c.md.rounds) ∧ w'.cell? ⟨g, off + j * 3 + 1, none⟩ = some (.int .i64 c.md.slots)) (by kernel_rfl) (hq) (fun hHeld => ?_)
      generalize w1.drew = wd at HX1 HM1 hq hHeld ⊢
      refine tk (i := 0) (v := ?_) rfl (Or.inl ⟨by rfl, ?_⟩) (by assumption) ?_
      rotate_left
      · (intro w hSw; (try dsimp only at hSw); go_simp; (try with_reducible rfl))
      try simp only [pa, pb, pc, Act.put, pe, pf, pg]
      refine wpAnyH_ready (rs := [1]) (by kernel_rfl) (by simp) (AllReadyH.cons rfl (fun K hK => ?_) AllReadyH.nil)
      go_simp
      refine (HIS.out _).mono ?_
      rintro e w2 ⟨rfl, b2⟩
      have HX2 := Lib.hid (HX1.out.call b2)
      have HM2 := Lib.hid (HM1.out.below b2 HM1.out.lt)
      have h2c := HX2.out.m.2.2.1
      rw [E0.out] at h2c
      have hq2 : w2.cell? ⟨w.heap.size + 1, 0, none⟩ = some (.int .i64 t) ∧ w2.cell? ⟨w.heap.size + 1, 1, none⟩ = some (.int .i64 (j : Int)) ∧ w2.cell? ⟨w.heap.size + 1, 2, none⟩ = some (.int .i64 r) ∧ w2.cell? ⟨w.heap.size + 1, 3, none⟩ = some (.int .i64 s) ∧ w2.cell? ⟨w.heap.size + 1, 4, none⟩ = some (.int .i64 k) ∧ w2.cell? ⟨w.heap.size, 2, none⟩ = some (.slice (some ⟨g, off, none⟩) v.cs.length v.mc) ∧ w2.cell? ⟨g, off + j * 3, none⟩ = some (.int .i64 c.md.rounds) ∧ w2.cell? ⟨g, off + j * 3 + 1, none⟩ = some (.int .i64 c.md.slots) := ⟨HX2.out.s.1, HX2.out.s.2.1, HX2.out.s.2.2.1, HX2.out.s.2.2.2.1, HX2.out.s.2.2.2.2, h2c, HM2.out.c0, HM2.out.c1⟩
      go_wp2_with fail
      refine hK.out _ _ ?_ (fun hHeld => ?_)
      · exact hq2
      clear hK K
      try simp only [pa, pb, pc, Act.put, pe, pf, pg]
      refine tk (i := 2) (v := ?_) rfl (Or.inl ⟨by rfl, ?_⟩) (by assumption) ?_
      rotate_left
      · (intro w hSw; (try dsimp only at hSw); go_simp; (try with_reducible rfl))
      try simp only [pa, pb, pc, Act.put, pe, pf, pg]
      refine tk (i := 3) (v := ?_) rfl (Or.inl ⟨by rfl, ?_⟩) (by assumption) ?_
      rotate_left
      · (intro w hSw; (try dsimp only at hSw); go_simp; (try with_reducible rfl))
      try simp only [pa, pb, pc, Act.put, pe, pf, pg]
      refine tk (i := 4) (v := ?_) rfl (Or.inl ⟨by rfl, ?_⟩) (by assumption) ?_
      rotate_left
      · (intro w hSw; (try dsimp only at hSw); go_simp; (try with_reducible rfl))
      try simp only [pa, pb, pc, Act.put, pe, pf, pg]
      refine tk (i := 5) (v := ?_) rfl (Or.inl ⟨by rfl, ?_⟩) (by assumption) ?_
      rotate_left
      · (intro w hSw; (try dsimp only at hSw); go_simp; (try with_reducible rfl))
      try simp only [pa, pb, pc, Act.put, pe, pf, pg]
      refine tk (i := 6) (v := ?_) rfl (Or.inl ⟨by rfl, ?_⟩) (by assumption) ?_
      rotate_left
      · (intro w hSw; (try dsimp only at hSw); go_simp; (try with_reducible rfl))
      try simp only [pa, pb, pc, Act.put, pe, pf, pg]
      refine tk (i := 7) (v := ?_) rfl (Or.inl ⟨by rfl, ?_⟩) (by assumption) ?_
      rotate_left
      · (intro w hSw; (try dsimp only at hSw); go_simp; (try with_reducible rfl))
      try simp only [pa, pb, pc, Act.put, pe, pf, pg]
      refine wpAnyH_ready (rs := [8]) (by kernel_rfl) (by simp) (AllReadyH.cons rfl (fun K hK => ?_) AllReadyH.nil)
      go_simp
      refine (HIM.out _).mono ?_
      rintro e w3 ⟨rfl, rfl⟩
      go_wp2_with fail
      refine hK.out _ _ ?_ (fun hHeld => ?_)
      · exact hq2
      clear hK K
      try simp only [pa, pb, pc, Act.put, pe, pf, pg]
      refine tk (i := 9) (v := ?_) rfl (Or.inl ⟨by rfl, ?_⟩) (by assumption) ?_
      rotate_left
      · (intro w hSw; (try dsimp only at hSw); go_simp; (try with_reducible rfl))
      try simp only [pa, pb, pc, Act.put, pe, pf, pg]
      refine tk (i := 10) (v := ?_) rfl (Or.inl ⟨by rfl, ?_⟩) (by assumption) ?_
      rotate_left
      · (intro w hSw; (try dsimp only at hSw); go_simp; (try with_reducible rfl))
      try simp only [pa, pb, pc, Act.put, pe, pf, pg]
      refine tk (i := 11) (v := ?_) rfl (Or.inl ⟨by rfl, ?_⟩) (by assumption) ?_
      rotate_left
      · (intro w hSw; (try dsimp only at hSw); go_simp; (try with_reducible rfl))
      try simp only [pa, pb, pc, Act.put, pe, pf, pg]
      refine tk (i := 12) (v := ?_) rfl (Or.inl ⟨by rfl, ?_⟩) (by assumption) ?_
      rotate_left
      · (intro w hSw; (try dsimp only at hSw); go_simp; (try with_reducible rfl))
      try simp only [pa, pb, pc, Act.put, pe, pf, pg]
      refine tk (i := 13) (v := ?_) rfl (Or.inl ⟨by rfl, ?_⟩) (by assumption) ?_
      rotate_left
      · (intro w hSw; (try dsimp only at hSw); go_simp; (try with_reducible rfl))
      try simp only [pa, pb, pc, Act.put, pe, pf, pg]
      refine tk (i := 14) (v := ?_) rfl (Or.inl ⟨by rfl, ?_⟩) (by assumption) ?_
      rotate_left
      · (intro w hSw; (try dsimp only at hSw); go_simp; (try with_reducible rfl))
      try simp only [pa, pb, pc, Act.put, pe, pf, pg]
      refine tk (i := 15) (v := ?_) rfl (Or.inl ⟨by rfl, ?_⟩) (by assumption) ?_
      rotate_left
      · (intro w hSw; (try dsimp only at hSw); go_simp; (try with_reducible rfl))
      try simp only [pa, pb, pc, Act.put, pe, pf, pg]
      refine tk (i := 16) (v := ?_) rfl (Or.inl ⟨by rfl, ?_⟩) (by assumption) ?_
      rotate_left
      · (intro w hSw; (try dsimp only at hSw); go_simp; (try with_reducible rfl))
      try simp only [pa, pb, pc, Act.put, pe, pf, pg]
      refine tk (i := 17) (v := ?_) rfl (Or.inl ⟨by rfl, ?_⟩) (by assumption) ?_
      rotate_left
      · (intro w hSw; (try dsimp only at hSw); go_simp; (try with_reducible rfl))
      try simp only [pa, pb, pc, Act.put, pe, pf, pg]
      refine tk (i := 18) (v := ?_) rfl (Or.inl ⟨by rfl, ?_⟩) (by assumption) ?_
      rotate_left
      · (intro w hSw; (try dsimp only at hSw); go_simp; (try with_reducible rfl))
      try simp only [pa, pb, pc, Act.put, pe, pf, pg]
      refine tk (i := 19) (v := ?_) rfl (Or.inl ⟨by rfl, ?_⟩) (by assumption) ?_
      rotate_left
      · (intro w hSw; (try dsimp only at hSw); go_simp; (try with_reducible rfl))
      try simp only [pa, pb, pc, Act.put, pe, pf, pg]
      refine tk (i := 20) (v := ?_) rfl (Or.inl ⟨by rfl, ?_⟩) (by assumption) ?_
      rotate_left
      · (intro w hSw; (try dsimp only at hSw); go_simp; (try with_reducible rfl))
      try simp only [pa, pb, pc, Act.put, pe, pf, pg]
      refine tk (i := 21) (v := ?_) rfl (Or.inl ⟨by rfl, ?_⟩) (by assumption) ?_
      rotate_left
      · (intro w hSw; (try dsimp only at hSw); go_simp; (try with_reducible rfl))
      try simp only [pa, pb, pc, Act.put, pe, pf, pg]
      refine tk (i := 22) (v := ?_) rfl (Or.inl ⟨by rfl, ?_⟩) (by assumption) ?_
      rotate_left
      · (intro w hSw; (try dsimp only at hSw); go_simp; (try with_reducible rfl))
      try simp only [pa, pb, pc, Act.put, pe, pf, pg]
      refine tk (i := 23) (v := ?_) rfl (Or.inl ⟨by rfl, ?_⟩) (by assumption) ?_
      rotate_left
      · (intro w hSw; (try dsimp only at hSw); go_simp; (try with_reducible rfl))
      try simp only [pa, pb, pc, Act.put, pe, pf, pg]
      refine tk (i := 24) (v := ?_) rfl (Or.inl ⟨by rfl, ?_⟩) (by assumption) ?_
      rotate_left
      · (intro w hSw; (try dsimp only at hSw); go_simp; (try with_reducible rfl))
      try simp only [pa, pb, pc, Act.put, pe, pf, pg]
      refine tk (i := 25) (v := ?_) rfl (Or.inl ⟨by rfl, ?_⟩) (by assumption) ?_
      rotate_left
      · (intro w hSw; (try dsimp only at hSw); go_simp; (try with_reducible rfl))
      try simp only [pa, pb, pc, Act.put, pe, pf, pg]
      refine tk (i := 26) (v := ?_) rfl (Or.inl ⟨by rfl, ?_⟩) (by assumption) ?_
      rotate_left
      · (intro w hSw; (try dsimp only at hSw); go_simp; (try with_reducible rfl))
      try simp only [pa, pb, pc, Act.put, pe, pf, pg]
      refine tk (i := 27) (v := ?_) rfl (Or.inl ⟨by rfl, ?_⟩) (by assumption) ?_
      rotate_left
      · (intro w hSw; (try dsimp only at hSw); go_simp; (try with_reducible rfl))
      try simp only [pa, pb, pc, Act.put, pe, pf, pg]
      refine tk (i := 28) (v := ?_) rfl (Or.inl ⟨by rfl, ?_⟩) (by assumption) ?_
      rotate_left
      · (intro w hSw; (try dsimp only at hSw); go_simp; (try with_reducible rfl))
      try simp only [pa, pb, pc, Act.put, pe, pf, pg]
      refine tk (i := 29) (v := ?_) rfl (Or.inl ⟨by rfl, ?_⟩) (by assumption) ?_
      rotate_left
      · (intro w hSw; (try dsimp only at hSw); go_simp; (try with_reducible rfl))
      try simp only [pa, pb, pc, Act.put, pe, pf, pg]
      refine tk (i := 30) (v := ?_) rfl (Or.inl ⟨by rfl, ?_⟩) (by assumption) ?_
      rotate_left
      · (intro w hSw; (try dsimp only at hSw); go_simp; (try with_reducible rfl))
      try simp only [pa, pb, pc, Act.put, pe, pf, pg]
      refine tk (i := 31) (v := ?_) rfl (Or.inl ⟨by rfl, ?_⟩) (by assumption) ?_
      rotate_left
      · (intro w hSw; (try dsimp only at hSw); go_simp; (try with_reducible rfl))
      try simp only [pa, pb, pc, Act.put, pe, pf, pg]
      refine tk (i := 32) (v := ?_) rfl (Or.inl ⟨by rfl, ?_⟩) (by assumption) ?_
      rotate_left
      · (intro w hSw; (try dsimp only at hSw); go_simp; (try with_reducible rfl))
      try simp only [pa, pb, pc, Act.put, pe, pf, pg]
      refine tk (i := 33) (v := ?_) rfl (Or.inl ⟨by rfl, ?_⟩) (by assumption) ?_
      rotate_left
      · (intro w hSw; (try dsimp only at hSw); go_simp; (try with_reducible rfl))
      try simp only [pa, pb, pc, Act.put, pe, pf, pg]
      refine tk (i := 34) (v := ?_) rfl (Or.inl ⟨by rfl, ?_⟩) (by assumption) ?_
      rotate_left
      · (intro w hSw; (try dsimp only at hSw); go_simp; (try with_reducible rfl))
      try simp only [pa, pb, pc, Act.put, pe, pf, pg]
      refine wpAnyH_done (by kernel_rfl) ?_ _
      clear hq2
      go_wp2_with fail
      go_ret
      rw [HG.out]
      exact ⟨rfl, HX2.out.bx.below⟩
  · have h1b : decide (c.md.rounds ≤ r) = true := by simp; omega
    have hIM := HIM.out; rw [E0.out] at hIM; have HIM := Lib.hid hIM; clear hIM
    have HG := Lib.hid (show res = false from by rw [HF.out, decide_eq_false h1]; rfl)
    clear HF HZ HAC
    go_enter Tryz.func131, Tryz.ntmps131
    go_upto_region 1 with fail
    dsimp only at HX hx
    generalize ((w.alloc (.cells #[.int .i64 v.id, .slice v.no v.n.length v.nc, .slice v.mo v.cs.length v.mc, .slice v.eo v.e.length v.ec] 28)).alloc (.cells #[.int .i64 t, .int .i64 (j : Int), .int .i64 r, .int .i64 s, .int .i64 k] 30)) = w1 at HX hx ⊢
    have HX1 := Lib.hid HX.out.drew
    have HM1 := Lib.hid (hx.below (Below.drew (Below.refl _ _)) hx.lt)
    have h2c := HX1.out.m.2.2.1
    rw [E0.out] at h2c
    have hq : w1.drew.cell? ⟨w.heap.size + 1, 0, none⟩ = some (.int .i64 t) ∧ w1.drew.cell? ⟨w.heap.size + 1, 1, none⟩ = some (.int .i64 (j : Int)) ∧ w1.drew.cell? ⟨w.heap.size + 1, 2, none⟩ = some (.int .i64 r) ∧ w1.drew.cell? ⟨w.heap.size + 1, 3, none⟩ = some (.int .i64 s) ∧ w1.drew.cell? ⟨w.heap.size + 1, 4, none⟩ = some (.int .i64 k) ∧ w1.drew.cell? ⟨w.heap.size, 2, none⟩ = some (.slice (some ⟨g, off, none⟩) v.cs.length v.mc) ∧ w1.drew.cell? ⟨g, off + j * 3, none⟩ = some (.int .i64 c.md.rounds) ∧ w1.drew.cell? ⟨g, off + j * 3 + 1, none⟩ = some (.int .i64 c.md.slots) := ⟨HX1.out.s.1, HX1.out.s.2.1, HX1.out.s.2.2.1, HX1.out.s.2.2.2.1, HX1.out.s.2.2.2.2, h2c, HM1.out.c0, HM1.out.c1⟩
    clear HX hx h2c
    refine wp_region_held_drew (S := fun w' => w'.cell? ⟨w.heap.size + 1, 0, none⟩ = some (.int .i64 t) ∧ w'.cell? ⟨w.heap.size + 1, 1, none⟩ = some (.int .i64 (j : Int)) ∧ w'.cell? ⟨w.heap.size + 1, 2, none⟩ = some (.int .i64 r) ∧ w'.cell? ⟨w.heap.size + 1, 3, none⟩ = some (.int .i64 s) ∧ w'.cell? ⟨w.heap.size + 1, 4, none⟩ = some (.int .i64 k) ∧ w'.cell? ⟨w.heap.size, 2, none⟩ = some (.slice (some ⟨g, off, none⟩) v.cs.length v.mc) ∧ w'.cell? ⟨g, off + j * 3, none⟩ = some (.int .i64 c.md.rounds) ∧ w'.cell? ⟨g, off + j * 3 + 1, none⟩ = some (.int .i64 c.md.slots)) (by kernel_rfl) (hq) (fun hHeld => ?_)
    generalize w1.drew = wd at HX1 HM1 hq hHeld ⊢
    refine tk (i := 0) (v := ?_) rfl (Or.inl ⟨by rfl, ?_⟩) (by assumption) ?_
    rotate_left
    · (intro w hSw; (try dsimp only at hSw); go_simp; (try with_reducible rfl))
    try simp only [pa, pb, pc, Act.put, pe, pf, pg]
    refine wpAnyH_ready (rs := [1]) (by kernel_rfl) (by simp) (AllReadyH.cons rfl (fun K hK => ?_) AllReadyH.nil)
    go_simp
    refine (HIS.out _).mono ?_
    rintro e w2 ⟨rfl, b2⟩
    have HX2 := Lib.hid (HX1.out.call b2)
    have HM2 := Lib.hid (HM1.out.below b2 HM1.out.lt)
    have h2c := HX2.out.m.2.2.1
    rw [E0.out] at h2c
    have hq2 : w2.cell? ⟨w.heap.size + 1, 0, none⟩ = some (.int .i64 t) ∧ w2.cell? ⟨w.heap.size + 1, 1, none⟩ = some (.int .i64 (j : Int)) ∧ w2.cell? ⟨w.heap.size + 1, 2, none⟩ = some (.int .i64 r) ∧ w2.cell? ⟨w.heap.size + 1, 3, none⟩ = some (.int .i64 s) ∧ w2.cell? ⟨w.heap.size + 1, 4, none⟩ = some (.int .i64 k) ∧ w2.cell? ⟨w.heap.size, 2, none⟩ = some (.slice (some ⟨g, off, none⟩) v.cs.length v.mc) ∧ w2.cell? ⟨g, off + j * 3, none⟩ = some (.int .i64 c.md.rounds) ∧ w2.cell? ⟨g, off + j * 3 + 1, none⟩ = some (.int .i64 c.md.slots) := ⟨HX2.out.s.1, HX2.out.s.2.1, HX2.out.s.2.2.1, HX2.out.s.2.2.2.1, HX2.out.s.2.2.2.2, h2c, HM2.out.c0, HM2.out.c1⟩
    go_wp2_with fail
    refine hK.out _ _ ?_ (fun hHeld => ?_)
    · exact hq2
    clear hK K
    try simp only [pa, pb, pc, Act.put, pe, pf, pg]
    refine tk (i := 2) (v := ?_) rfl (Or.inl ⟨by rfl, ?_⟩) (by assumption) ?_
    rotate_left
    · (intro w hSw; (try dsimp only at hSw); go_simp; (try with_reducible rfl))
    try simp only [pa, pb, pc, Act.put, pe, pf, pg]
    refine tk (i := 3) (v := ?_) rfl (Or.inl ⟨by rfl, ?_⟩) (by assumption) ?_
    rotate_left
    · (intro w hSw; (try dsimp only at hSw); go_simp; (try with_reducible rfl))
    try simp only [pa, pb, pc, Act.put, pe, pf, pg]
    refine tk (i := 4) (v := ?_) rfl (Or.inl ⟨by rfl, ?_⟩) (by assumption) ?_
    rotate_left
    · (intro w hSw; (try dsimp only at hSw); go_simp; (try with_reducible rfl))
    try simp only [pa, pb, pc, Act.put, pe, pf, pg]
    refine tk (i := 5) (v := ?_) rfl (Or.inl ⟨by rfl, ?_⟩) (by assumption) ?_
    rotate_left
    · (intro w hSw; (try dsimp only at hSw); go_simp; (try with_reducible rfl))
    try simp only [pa, pb, pc, Act.put, pe, pf, pg]
    refine tk (i := 6) (v := ?_) rfl (Or.inl ⟨by rfl, ?_⟩) (by assumption) ?_
    rotate_left
    · (intro w hSw; (try dsimp only at hSw); go_simp; (try with_reducible rfl))
    try simp only [pa, pb, pc, Act.put, pe, pf, pg]
    refine tk (i := 7) (v := ?_) rfl (Or.inl ⟨by rfl, ?_⟩) (by assumption) ?_
    rotate_left
    · (intro w hSw; (try dsimp only at hSw); go_simp; (try with_reducible rfl))
    try simp only [pa, pb, pc, Act.put, pe, pf, pg]
    refine wpAnyH_ready (rs := [8]) (by kernel_rfl) (by simp) (AllReadyH.cons rfl (fun K hK => ?_) AllReadyH.nil)
    go_simp
    refine (HIM.out _).mono ?_
    rintro e w3 ⟨rfl, rfl⟩
    go_wp2_with fail
    refine hK.out _ _ ?_ (fun hHeld => ?_)
    · exact hq2
    clear hK K
    try simp only [pa, pb, pc, Act.put, pe, pf, pg]
    refine tk (i := 9) (v := ?_) rfl (Or.inl ⟨by rfl, ?_⟩) (by assumption) ?_
    rotate_left
    · (intro w hSw; (try dsimp only at hSw); go_simp; (try with_reducible rfl))
    try simp only [pa, pb, pc, Act.put, pe, pf, pg]
    refine tk (i := 10) (v := ?_) rfl (Or.inl ⟨by rfl, ?_⟩) (by assumption) ?_
    rotate_left
    · (intro w hSw; (try dsimp only at hSw); go_simp; (try with_reducible rfl))
    try simp only [pa, pb, pc, Act.put, pe, pf, pg]
    refine tk (i := 11) (v := ?_) rfl (Or.inl ⟨by rfl, ?_⟩) (by assumption) ?_
    rotate_left
    · (intro w hSw; (try dsimp only at hSw); go_simp; (try with_reducible rfl))
    try simp only [pa, pb, pc, Act.put, pe, pf, pg]
    refine tk (i := 12) (v := ?_) rfl (Or.inl ⟨by rfl, ?_⟩) (by assumption) ?_
    rotate_left
    · (intro w hSw; (try dsimp only at hSw); go_simp; (try with_reducible rfl))
    try simp only [pa, pb, pc, Act.put, pe, pf, pg]
    refine tk (i := 13) (v := ?_) rfl (Or.inl ⟨by rfl, ?_⟩) (by assumption) ?_
    rotate_left
    · (intro w hSw; (try dsimp only at hSw); go_simp; (try with_reducible rfl))
    try simp only [pa, pb, pc, Act.put, pe, pf, pg]
    refine tk (i := 14) (v := ?_) rfl (Or.inl ⟨by rfl, ?_⟩) (by assumption) ?_
    rotate_left
    · (intro w hSw; (try dsimp only at hSw); go_simp; (try with_reducible rfl))
    try simp only [pa, pb, pc, Act.put, pe, pf, pg]
    refine tk (i := 15) (v := ?_) rfl (Or.inl ⟨by rfl, ?_⟩) (by assumption) ?_
    rotate_left
    · (intro w hSw; (try dsimp only at hSw); go_simp; (try with_reducible rfl))
    try simp only [pa, pb, pc, Act.put, pe, pf, pg]
    refine tk (i := 16) (v := ?_) rfl (Or.inl ⟨by rfl, ?_⟩) (by assumption) ?_
    rotate_left
    · (intro w hSw; (try dsimp only at hSw); go_simp; (try with_reducible rfl))
    try simp only [pa, pb, pc, Act.put, pe, pf, pg]
    refine tk (i := 17) (v := ?_) rfl (Or.inl ⟨by rfl, ?_⟩) (by assumption) ?_
    rotate_left
    · (intro w hSw; (try dsimp only at hSw); go_simp; (try with_reducible rfl))
    try simp only [pa, pb, pc, Act.put, pe, pf, pg]
    refine tk (i := 18) (v := ?_) rfl (Or.inl ⟨by rfl, ?_⟩) (by assumption) ?_
    rotate_left
    · (intro w hSw; (try dsimp only at hSw); go_simp; (try with_reducible rfl))
    try simp only [pa, pb, pc, Act.put, pe, pf, pg]
    refine tk (i := 19) (v := ?_) rfl (Or.inl ⟨by rfl, ?_⟩) (by assumption) ?_
    rotate_left
    · (intro w hSw; (try dsimp only at hSw); go_simp; (try with_reducible rfl))
    try simp only [pa, pb, pc, Act.put, pe, pf, pg]
    refine tk (i := 20) (v := ?_) rfl (Or.inl ⟨by rfl, ?_⟩) (by assumption) ?_
    rotate_left
    · (intro w hSw; (try dsimp only at hSw); go_simp; (try with_reducible rfl))
    try simp only [pa, pb, pc, Act.put, pe, pf, pg]
    refine tk (i := 21) (v := ?_) rfl (Or.inl ⟨by rfl, ?_⟩) (by assumption) ?_
    rotate_left
    · (intro w hSw; (try dsimp only at hSw); go_simp; (try with_reducible rfl))
    try simp only [pa, pb, pc, Act.put, pe, pf, pg]
    refine tk (i := 22) (v := ?_) rfl (Or.inl ⟨by rfl, ?_⟩) (by assumption) ?_
    rotate_left
    · (intro w hSw; (try dsimp only at hSw); go_simp; (try with_reducible rfl))
    try simp only [pa, pb, pc, Act.put, pe, pf, pg]
    refine tk (i := 23) (v := ?_) rfl (Or.inl ⟨by rfl, ?_⟩) (by assumption) ?_
    rotate_left
    · (intro w hSw; (try dsimp only at hSw); go_simp; (try with_reducible rfl))
    try simp only [pa, pb, pc, Act.put, pe, pf, pg]
    refine tk (i := 24) (v := undef) rfl (Or.inr ⟨by rfl, rfl⟩) (by assumption) ?_
    try simp only [pa, pb, pc, Act.put, pe, pf, pg]
    refine tk (i := 25) (v := undef) rfl (Or.inr ⟨by rfl, rfl⟩) (by assumption) ?_
    try simp only [pa, pb, pc, Act.put, pe, pf, pg]
    refine tk (i := 26) (v := undef) rfl (Or.inr ⟨by rfl, rfl⟩) (by assumption) ?_
    try simp only [pa, pb, pc, Act.put, pe, pf, pg]
    refine tk (i := 27) (v := undef) rfl (Or.inr ⟨by rfl, rfl⟩) (by assumption) ?_
    try simp only [pa, pb, pc, Act.put, pe, pf, pg]
    refine tk (i := 28) (v := undef) rfl (Or.inr ⟨by rfl, rfl⟩) (by assumption) ?_
    try simp only [pa, pb, pc, Act.put, pe, pf, pg]
    refine tk (i := 29) (v := undef) rfl (Or.inr ⟨by rfl, rfl⟩) (by assumption) ?_
    try simp only [pa, pb, pc, Act.put, pe, pf, pg]
    refine tk (i := 30) (v := undef) rfl (Or.inr ⟨by rfl, rfl⟩) (by assumption) ?_
    try simp only [pa, pb, pc, Act.put, pe, pf, pg]
    refine tk (i := 31) (v := undef) rfl (Or.inr ⟨by rfl, rfl⟩) (by assumption) ?_
    try simp only [pa, pb, pc, Act.put, pe, pf, pg]
    refine tk (i := 32) (v := undef) rfl (Or.inr ⟨by rfl, rfl⟩) (by assumption) ?_
    try simp only [pa, pb, pc, Act.put, pe, pf, pg]
    refine tk (i := 33) (v := undef) rfl (Or.inr ⟨by rfl, rfl⟩) (by assumption) ?_
    try simp only [pa, pb, pc, Act.put, pe, pf, pg]
    refine tk (i := 34) (v := ?_) rfl (Or.inl ⟨by rfl, ?_⟩) (by assumption) ?_
    rotate_left
    · (intro w hSw; (try dsimp only at hSw); go_simp; (try with_reducible rfl))
    try simp only [pa, pb, pc, Act.put, pe, pf, pg]
    refine wpAnyH_done (by kernel_rfl) ?_ _
    clear hq2
    go_wp2_with fail
    go_ret
    rw [HG.out]
    exact ⟨rfl, HX2.out.bx.below⟩
end

section
open Go.RowKit
set_option maxRecDepth 100000 in
set_option maxHeartbeats 2000000 in
theorem l15Code_any (v : Mv) (x : Ss) (w : World) (hr : RdMe w v) :
    Calls Tryz.prog 73 #[mvVal v, ssVal x] w fun e w' => e = .returned (.int .i64 (codeLu v.me x)) ∧ Below w.heap.size w w' := by
  have HX := Lib.hid (Bs.start (x := x) hr)
  have HC := Lib.hid (fun W hW => sIsMedl_any v W hW)
  rcases h1 : isMedl v.me with _ | _
  · have HF := Lib.hid (codeLu_1 (x := x) h1)
    rw [h1] at HC
    clear hr h1
    unfold mvVal at HC ⊢
    unfold ssVal
    go_enter Tryz.func73, Tryz.ntmps73
    go_upto_region 1 with fail
    generalize (w.alloc (.cells #[.int .i64 v.id, .slice v.no v.n.length v.nc, .slice v.mo v.cs.length v.mc, .slice v.eo v.e.length v.ec] 28)).alloc (.cells #[.int .i64 x.t, .int .i64 x.m, .int .i64 x.r, .int .i64 x.s, .int .i64 x.k] 30) = w1 at HX ⊢
    obtain ⟨z0, z1, z2, z3⟩ := HX.out.m
    go_wp2_with fail
    refine (HC.out _ HX.out.bx.rd).mono ?_
    rintro e w2 ⟨rfl, b2⟩
    clear z0 z1 z2 z3
    go_wp2_with fail
    go_ret
    rw [HF.out]
    exact ⟨rfl, (HX.out.call b2).bx.below⟩
  · have HB := Lib.hid (fun W hW => l15Belongs_any v x W hW (medl_iff.1 h1))
    have HF := Lib.hid (show codeLu v.me x = if belongsB v.me x = true then 0 else 2 from by
      rcases h2 : belongsB v.me x with _ | _
      · rw [codeLu_2 h1 h2]; rfl
      · rw [codeLu_0 h1 h2]; rfl)
    rw [h1] at HC
    clear hr h1
    generalize belongsB v.me x = q at HB HF
    unfold mvVal at HC HB ⊢
    unfold ssVal at HB ⊢
    go_enter Tryz.func73, Tryz.ntmps73
    go_upto_region 1 with fail
    generalize (w.alloc (.cells #[.int .i64 v.id, .slice v.no v.n.length v.nc, .slice v.mo v.cs.length v.mc, .slice v.eo v.e.length v.ec] 28)).alloc (.cells #[.int .i64 x.t, .int .i64 x.m, .int .i64 x.r, .int .i64 x.s, .int .i64 x.k] 30) = w1 at HX ⊢
    obtain ⟨z0, z1, z2, z3⟩ := HX.out.m
    go_wp2_with fail
    refine (HC.out _ HX.out.bx.rd).mono ?_
    rintro e w2 ⟨rfl, b2⟩
    have HX2 := Lib.hid (HX.out.call b2)
    clear z0 z1 z2 z3 b2 HX
    obtain ⟨z0, z1, z2, z3⟩ := HX2.out.m
    obtain ⟨y0, y1, y2, y3, y4⟩ := HX2.out.s
    go_wp2_with fail
    refine (HB.out _ HX2.out.bx.rd).mono ?_
    rintro e w3 ⟨rfl, b3⟩
    have HX3 := Lib.hid (HX2.out.call b3)
    clear z0 z1 z2 z3 y0 y1 y2 y3 y4 b3
    rcases q with _ | _
    · have HG := Lib.hid (show codeLu v.me x = 2 from HF.out)
      go_wp2_with fail
      go_ret
      rw [HG.out]
      exact ⟨rfl, HX3.out.bx.below⟩
    · have HG := Lib.hid (show codeLu v.me x = 0 from HF.out)
      go_wp2_with fail
      go_ret
      rw [HG.out]
      exact ⟨rfl, HX3.out.bx.below⟩
theorem Lies.spot {m : Me} {x : Ss} {j R S r s : Nat} (W : Well m) (h : Lies m x j R S r s) : ∃ i, i < m.slots.length ∧ placeS m.slots x.m x.r x.s = (i : Int) ∧ (slOf m.slots i).desc = descOf m x := by
  have hf := h.found W
  unfold findSlot at hf
  rw [if_neg (by rw [W.r4]; simp)] at hf
  rcases placeS_case m.slots x.m x.r x.s with ⟨-, h2⟩ | ⟨i, hi, h2, h3⟩
  · rw [h2] at hf
    have hf2 : (4 : Int) = 0 := congrArg Prod.snd hf
    exact absurd hf2 (by decide)
  · rw [h3] at hf
    exact ⟨i, hi, h2, (Prod.mk.inj hf).1⟩
structure BsD (w W : World) (v : Mv) (x : Ss) : Prop where
  bs : Bs w W w.heap.size v x
  box : DescAt 44 W (w.heap.size + 2) 0 0 0 0 false
theorem BsD.call {w W W' : World} {v : Mv} {x : Ss} (h : BsD w W v x) (hb : Below W.heap.size W W') : BsD w W' v x := ⟨h.bs.call hb, h.box.below hb h.box.lt⟩
theorem size_twoT {w : World} {o u : Obj} : ((w.alloc o).alloc u).heap.size = w.heap.size + 2 := by simp
theorem BsD.start {w : World} {v : Mv} {x : Ss} (hr : RdMe w v) : BsD w (((w.alloc (.cells #[.int .i64 v.id, .slice v.no v.n.length v.nc, .slice v.mo v.cs.length v.mc, .slice v.eo v.e.length v.ec] 28)).alloc (.cells #[.int .i64 x.t, .int .i64 x.m, .int .i64 x.r, .int .i64 x.s, .int .i64 x.k] 30)).alloc (.cells #[.int .i64 0, .int .i64 0, .int .i64 0, .int .i64 0, .bool false] 44)) v x := by
  refine ⟨(Bs.start hr).call ((Below.refl _ _).alloc (Nat.le_refl _) _), ?_⟩
  rw [← size_twoT (w := w) (o := (.cells #[.int .i64 v.id, .slice v.no v.n.length v.nc, .slice v.mo v.cs.length v.mc, .slice v.eo v.e.length v.ec] 28)) (u := (.cells #[.int .i64 x.t, .int .i64 x.m, .int .i64 x.r, .int .i64 x.s, .int .i64 x.k] 30))]
  exact DescAt.new _
set_option linter.unusedSimpArgs false in
set_option maxRecDepth 100000 in
set_option maxHeartbeats 4000000 in
theorem l15Desc_any {x : Ss} {j R S r s : Nat} (v : Mv) (w : World) (hr : RdMe w v) (hw : Well v.me) (hy : Lies v.me x j R S r s) :
    Calls Tryz.prog 81 #[mvVal v, ssVal x] w fun e w' => e = .returned (dsVal (descOf v.me x)) ∧ Below w.heap.size w w' := by
  have HX := Lib.hid (BsD.start (x := x) hr)
  obtain ⟨i, hi, hpl, hdi⟩ := hy.spot hw
  have HFD := Lib.hid (fun W (hW : RdMe W v) => (by
    have h := l12Find_any v.eo v.e.length v.ec v.e x.m x.r x.s W hW.re hW.el
    rw [show placeS v.e x.m x.r x.s = (i : Int) from hpl] at h
    exact h : Calls Tryz.prog 136 #[.slice v.eo v.e.length v.ec, .int .i64 x.m, .int .i64 x.r, .int .i64 x.s] W fun e w' => e = .returned (.int .i64 (i : Int)) ∧ W = w'))
  have HRE := Lib.hid (fun W (hW : RdMe W v) => hW.re.at (show i < v.e.length from hi))
  rw [← hdi]
  change Calls _ _ _ _ fun e w' => e = .returned (dsVal (slOf v.e i).desc) ∧ _
  have hi2 : i < v.e.length := hi
  generalize slOf v.e i = y at HRE ⊢
  obtain ⟨g, off, e0, -, hx0⟩ := HRE.out w hr
  have hx1 := hx0.below HX.out.bs.bx.below hx0.lt
  have hfd := HFD.out
  rw [e0] at hfd
  have HFD1 := Lib.hid hfd
  have E0 := Lib.hid e0
  clear hpl hdi hi hr hw hy hx0 e0 hfd HFD
  unfold mvVal
  unfold ssVal
  go_enter Tryz.func81, Tryz.ntmps81
  go_upto_region 1 with fail
  generalize ((w.alloc (.cells #[.int .i64 v.id, .slice v.no v.n.length v.nc, .slice v.mo v.cs.length v.mc, .slice v.eo v.e.length v.ec] 28)).alloc (.cells #[.int .i64 x.t, .int .i64 x.m, .int .i64 x.r, .int .i64 x.s, .int .i64 x.k] 30)).alloc (.cells #[.int .i64 0, .int .i64 0, .int .i64 0, .int .i64 0, .bool false] 44) = w1 at HX hx1 ⊢
  have HX1 := Lib.hid (HX.out.call (Below.drew (Below.refl w1.heap.size w1)))
  have HXS := Lib.hid (hx1.below (Below.drew (Below.refl w1.heap.size w1)) hx1.lt)
  have h3c := HX1.out.bs.m.2.2.2
  rw [E0.out] at h3c
  have hq : w1.drew.cell? ⟨w.heap.size + 1, 1, none⟩ = some (.int .i64 x.m) ∧ w1.drew.cell? ⟨w.heap.size + 1, 2, none⟩ = some (.int .i64 x.r) ∧ w1.drew.cell? ⟨w.heap.size + 1, 3, none⟩ = some (.int .i64 x.s) ∧ w1.drew.cell? ⟨w.heap.size, 3, none⟩ = some (.slice (some ⟨g, off, none⟩) v.e.length v.ec) := ⟨HX1.out.bs.s.2.1, HX1.out.bs.s.2.2.1, HX1.out.bs.s.2.2.2.1, h3c⟩
  clear HX hx1 h3c
  refine wp_region_held_drew (S := fun w' => w'.cell? ⟨w.heap.size + 1, 1, none⟩ = some (.int .i64 x.m) ∧ w'.cell? ⟨w.heap.size + 1, 2, none⟩ = some (.int .i64 x.r) ∧ w'.cell? ⟨w.heap.size + 1, 3, none⟩ = some (.int .i64 x.s) ∧ w'.cell? ⟨w.heap.size, 3, none⟩ = some (.slice (some ⟨g, off, none⟩) v.e.length v.ec)) (by kernel_rfl) (hq) (fun hHeld => ?_)
  generalize w1.drew = wd at HX1 HXS hq hHeld ⊢
  refine tk (i := 0) (v := ?_) rfl (Or.inl ⟨by rfl, ?_⟩) (by assumption) ?_
  rotate_left
  · (intro w hSw; (try dsimp only at hSw); go_simp; (try with_reducible rfl))
  try simp only [pa, pb, pc, Act.put, pe, pf, pg]
  refine tk (i := 1) (v := ?_) rfl (Or.inl ⟨by rfl, ?_⟩) (by assumption) ?_
  rotate_left
  · (intro w hSw; (try dsimp only at hSw); go_simp; (try with_reducible rfl))
  try simp only [pa, pb, pc, Act.put, pe, pf, pg]
  refine tk (i := 2) (v := ?_) rfl (Or.inl ⟨by rfl, ?_⟩) (by assumption) ?_
  rotate_left
  · (intro w hSw; (try dsimp only at hSw); go_simp; (try with_reducible rfl))
  try simp only [pa, pb, pc, Act.put, pe, pf, pg]
  refine tk (i := 3) (v := ?_) rfl (Or.inl ⟨by rfl, ?_⟩) (by assumption) ?_
  rotate_left
  · (intro w hSw; (try dsimp only at hSw); go_simp; (try with_reducible rfl))
  try simp only [pa, pb, pc, Act.put, pe, pf, pg]
  refine tk (i := 4) (v := ?_) rfl (Or.inl ⟨by rfl, ?_⟩) (by assumption) ?_
  rotate_left
  · (intro w hSw; (try dsimp only at hSw); go_simp; (try with_reducible rfl))
  try simp only [pa, pb, pc, Act.put, pe, pf, pg]
  refine tk (i := 5) (v := ?_) rfl (Or.inl ⟨by rfl, ?_⟩) (by assumption) ?_
  rotate_left
  · (intro w hSw; (try dsimp only at hSw); go_simp; (try with_reducible rfl))
  try simp only [pa, pb, pc, Act.put, pe, pf, pg]
  refine tk (i := 6) (v := ?_) rfl (Or.inl ⟨by rfl, ?_⟩) (by assumption) ?_
  rotate_left
  · (intro w hSw; (try dsimp only at hSw); go_simp; (try with_reducible rfl))
  try simp only [pa, pb, pc, Act.put, pe, pf, pg]
  refine tk (i := 7) (v := ?_) rfl (Or.inl ⟨by rfl, ?_⟩) (by assumption) ?_
  rotate_left
  · (intro w hSw; (try dsimp only at hSw); go_simp; (try with_reducible rfl))
  try simp only [pa, pb, pc, Act.put, pe, pf, pg]
  refine tk (i := 8) (v := ?_) rfl (Or.inl ⟨by rfl, ?_⟩) (by assumption) ?_
  rotate_left
  · (intro w hSw; (try dsimp only at hSw); go_simp; (try with_reducible rfl))
  try simp only [pa, pb, pc, Act.put, pe, pf, pg]
  refine tk (i := 9) (v := ?_) rfl (Or.inl ⟨by rfl, ?_⟩) (by assumption) ?_
  rotate_left
  · (intro w hSw; (try dsimp only at hSw); go_simp; (try with_reducible rfl))
  try simp only [pa, pb, pc, Act.put, pe, pf, pg]
  refine wpAnyH_ready (rs := [10]) (by kernel_rfl) (by simp) (AllReadyH.cons rfl (fun K hK => ?_) AllReadyH.nil)
  go_simp
  refine (HFD1.out _ HX1.out.bs.bx.rd).mono ?_
  rintro e y2 ⟨rfl, rfl⟩
  go_wp2_with fail
  refine hK.out _ _ ?_ (fun hHeld => ?_)
  · exact hq
  clear hK K
  try simp only [pa, pb, pc, Act.put, pe, pf, pg]
  obtain ⟨-, -, -, x3, x4, x5, x6, x7⟩ := HXS.out.all8
  refine tk (i := 11) (v := ?_) rfl (Or.inl ⟨by rfl, ?_⟩) (by assumption) ?_
  rotate_left
  · (intro w hSw; (try dsimp only at hSw); go_simp; (try with_reducible rfl))
  try simp only [pa, pb, pc, Act.put, pe, pf, pg]
  refine tk (i := 12) (v := ?_) rfl (Or.inl ⟨by rfl, ?_⟩) (by assumption) ?_
  rotate_left
  · (intro w hSw; (try dsimp only at hSw); go_simp; (try with_reducible rfl))
  try simp only [pa, pb, pc, Act.put, pe, pf, pg]
  refine wpAnyH_ready (rs := [13]) (by kernel_rfl) (by simp) (AllReadyH.cons rfl (fun K hK => ?_) AllReadyH.nil)
  go_simp
  clear x3 x4 x5 x6 x7
  refine hK.out _ _ ?_ (fun hHeld => ?_)
  · exact hq
  clear hK K
  try simp only [pa, pb, pc, Act.put, pe, pf, pg]
  have hb2 := below_desc (B := w.heap.size + 2) (w := wd) (Nat.le_refl _) y.desc.node y.desc.kind y.desc.size y.desc.dur y.desc.chg
  have hs2 : SsAt (setDesc wd (w.heap.size + 2) y.desc.node y.desc.kind y.desc.size y.desc.dur y.desc.chg) (w.heap.size + 1) x := StateAt.below HX1.out.bs.st hb2 (Nat.lt_succ_self _)
  have hm2 := (HX1.out.bs.bx.at_.below hb2 (by omega)).all
  have h3c := hm2.2.2.2
  rw [E0.out] at h3c
  have hq3 : (setDesc wd (w.heap.size + 2) y.desc.node y.desc.kind y.desc.size y.desc.dur y.desc.chg).cell? ⟨w.heap.size + 1, 1, none⟩ = some (.int .i64 x.m) ∧ (setDesc wd (w.heap.size + 2) y.desc.node y.desc.kind y.desc.size y.desc.dur y.desc.chg).cell? ⟨w.heap.size + 1, 2, none⟩ = some (.int .i64 x.r) ∧ (setDesc wd (w.heap.size + 2) y.desc.node y.desc.kind y.desc.size y.desc.dur y.desc.chg).cell? ⟨w.heap.size + 1, 3, none⟩ = some (.int .i64 x.s) ∧ (setDesc wd (w.heap.size + 2) y.desc.node y.desc.kind y.desc.size y.desc.dur y.desc.chg).cell? ⟨w.heap.size, 3, none⟩ = some (.slice (some ⟨g, off, none⟩) v.e.length v.ec) := ⟨hs2.all.2.1, hs2.all.2.2.1, hs2.all.2.2.2.1, h3c⟩
  have HF1 := Lib.hid (HX1.out.box.five y.desc.node y.desc.kind y.desc.size y.desc.dur y.desc.chg)
  have HF2 := Lib.hid (HX1.out.bs.bx.below.trans (hb2.mono (by omega)))
  have g0 := HX1.out.box.c0; have g1 := HX1.out.box.c1; have g2 := HX1.out.box.c2; have g3 := HX1.out.box.c3; have g4 := HX1.out.box.c4
  have f0 := HX1.out.box.f 0; have f1 := HX1.out.box.f 1; have f2 := HX1.out.box.f 2; have f3 := HX1.out.box.f 3; have f4 := HX1.out.box.f 4
  clear hb2 hs2 hm2
  refine wpAnyH_ready (rs := [14]) (by kernel_rfl) (by simp) (AllReadyH.cons rfl (fun K hK => ?_) AllReadyH.nil)
  go_simp
  refine hK.out _ _ ?_ (fun hHeld => ?_)
  · exact hq3
  clear hK K g0 g1 g2 g3 g4 f0 f1 f2 f3 f4 hq3 hq
  try simp only [pa, pb, pc, Act.put, pe, pf, pg]
  refine wpAnyH_done (by kernel_rfl) ?_ _
  go_wp2_with fail
  change bodyPost _ _ _ _ _ (setDesc wd (w.heap.size + 2) y.desc.node y.desc.kind y.desc.size y.desc.dur y.desc.chg)
  clear hHeld
  generalize (setDesc wd (w.heap.size + 2) y.desc.node y.desc.kind y.desc.size y.desc.dur y.desc.chg) = w5 at HF1 HF2 ⊢
  have e0 := HF1.out.c0; have e1 := HF1.out.c1; have e2 := HF1.out.c2; have e3 := HF1.out.c3; have e4 := HF1.out.c4
  exact bodyPost_ret (v := dsVal y.desc) (by simp [dsVal, results, Tryz.results81, go_sem, e0, e1, e2, e3, e4]) rfl ⟨rfl, HF2.out⟩
theorem McIn.grownL {w w' : World} {b off : Nat} {c : Mc} {g : Option Nat} (h : McIn w b off c) (hg : w.grownBy w' g) (hne : some b ≠ g) : McIn w' b off c := ⟨hg.cell h.c0 hne, hg.cell h.c1 hne, hg.cell h.c2 hne⟩
structure BsS (w W : World) (v : Mv) (x : Ss) : Prop where
  bs : Bs w W w.heap.size v x
  box : StateAt 30 W (w.heap.size + 2) 0 0 0 0 0
theorem BsS.call {w W W' : World} {v : Mv} {x : Ss} (h : BsS w W v x) (hb : Below W.heap.size W W') : BsS w W' v x := ⟨h.bs.call hb, StateAt.below h.box hb (StateAt.lt h.box)⟩
theorem BsS.start {w : World} {v : Mv} {x : Ss} (hr : RdMe w v) : BsS w (((w.alloc (.cells #[.int .i64 v.id, .slice v.no v.n.length v.nc, .slice v.mo v.cs.length v.mc, .slice v.eo v.e.length v.ec] 28)).alloc (.cells #[.int .i64 x.t, .int .i64 x.m, .int .i64 x.r, .int .i64 x.s, .int .i64 x.k] 30)).alloc (.cells #[.int .i64 0, .int .i64 0, .int .i64 0, .int .i64 0, .int .i64 0] 30)) v x := by
  refine ⟨(Bs.start hr).call ((Below.refl _ _).alloc (Nat.le_refl _) _), ?_⟩
  rw [← size_twoT (w := w) (o := (.cells #[.int .i64 v.id, .slice v.no v.n.length v.nc, .slice v.mo v.cs.length v.mc, .slice v.eo v.e.length v.ec] 28)) (u := (.cells #[.int .i64 x.t, .int .i64 x.m, .int .i64 x.r, .int .i64 x.s, .int .i64 x.k] 30))]
  exact StateAt.new _
theorem Lies.advanceS {m : Me} {x : Ss} {j R S r s : Nat} (W : Well m) (h : Lies m x j R S r s) (w : World) :
    Calls Tryz.prog 132 #[ssVal x, .int .i64 (descOf m x).dur, .int .i64 (S : Int), .int .i64 (R : Int)] w fun e w' => e = .returned (ssVal (nextOf m x)) ∧ Below w.heap.size w w' := by
  have hA := isState_iff.2 (show (0 ≤ x.t ∧ x.t ≤ 65535) ∧ (0 ≤ x.m ∧ x.m ≤ 15) ∧ (0 ≤ x.r ∧ x.r ≤ 15) ∧ (0 ≤ x.s ∧ x.s ≤ 255) ∧ 0 ≤ x.k ∧ x.k ≤ 4294967295 from by
    obtain ⟨h1, h2, h3, h4, h5, h6, h7, h8, h9, ha, hb, hc, hd, he, hf, hg, hh, hi, hj⟩ := h
    omega)
  have hd := h.dur W
  have h0 := l04Advance_any (d := (descOf m x).dur) (slots := (S : Int)) (rounds := (R : Int)) hA (by omega) (by have := h.xs; have := h.ls; omega) (by have := h.xr; have := h.lr; omega) (by have := h.S16; omega) (by have := h.R8; omega) w
  rw [h.next]
  have e1 := h.xr
  have e2 := h.xs
  rw [e1, e2] at h0
  unfold ssVal
  rw [e1, e2]
  exact h0
set_option linter.unusedSimpArgs false in
set_option maxRecDepth 100000 in
set_option maxHeartbeats 4000000 in
theorem l15Next_any {x : Ss} {j R S r s : Nat} (v : Mv) (w : World) (hr : RdMe w v) (hw : Well v.me) (hy : Lies v.me x j R S r s) :
    Calls Tryz.prog 74 #[mvVal v, ssVal x] w fun e w' => e = .returned (ssVal (nextOf v.me x)) ∧ Below w.heap.size w w' := by
  have HX := Lib.hid (BsS.start (x := x) hr)
  have hjc : j < v.cs.length := by have e : v.me.modes.length = v.cs.length := mds_len v.cs; have := hy.hj; omega
  have HMD := Lib.hid (fun W (hW : RdMe W v) => hW.rm.at hjc)
  have e1 := hy.hR
  have e2 := hy.hS
  rw [mdOf_me] at e1 e2
  have HDS := Lib.hid (fun W hW => l15Desc_any v W hW hw hy)
  have HAD := Lib.hid (hy.advanceS hw)
  have he := hy.hm
  generalize nextOf v.me x = y at HAD ⊢
  generalize descOf v.me x = D at HDS HAD
  generalize mcOf v.cs j = c at e1 e2 HMD
  rw [← e1, ← e2] at HAD
  have HR0 := Lib.hid hr
  clear e1 e2 hr hw hy
  obtain ⟨t, m, r0, s0, k⟩ := x
  dsimp only at he
  subst he
  obtain ⟨g, off, e0, -, hx, -⟩ := HMD.out w HR0.out
  have HGL := Lib.hid (show g < w.heap.size from hx.lt)
  have hx := hx.below HX.out.bs.bx.below hx.lt
  have E0 := Lib.hid e0
  clear e0
  unfold mvVal at HDS ⊢
  unfold ssVal at HDS HAD ⊢
  unfold dsVal at HDS
  dsimp only at HDS HAD
  go_enter Tryz.func74, Tryz.ntmps74
  go_upto_region 1 with fail
  dsimp only at HX hx
  generalize ((w.alloc (.cells #[.int .i64 v.id, .slice v.no v.n.length v.nc, .slice v.mo v.cs.length v.mc, .slice v.eo v.e.length v.ec] 28)).alloc (.cells #[.int .i64 t, .int .i64 (j : Int), .int .i64 r0, .int .i64 s0, .int .i64 k] 30)).alloc (.cells #[.int .i64 0, .int .i64 0, .int .i64 0, .int .i64 0, .int .i64 0] 30) = w1 at HX hx ⊢
  have HX1 := Lib.hid (HX.out.call (Below.drew (Below.refl w1.heap.size w1)))
  have M1 := Lib.hid (hx.below (Below.drew (Below.refl _ _)) hx.lt)
  clear HX hx
  have h2c := HX1.out.bs.m.2.2.1
  rw [E0.out] at h2c
  have hq : w1.drew.cell? ⟨w.heap.size + 1, 0, none⟩ = some (.int .i64 t) ∧ w1.drew.cell? ⟨w.heap.size + 1, 1, none⟩ = some (.int .i64 (j : Int)) ∧ w1.drew.cell? ⟨w.heap.size + 1, 2, none⟩ = some (.int .i64 r0) ∧ w1.drew.cell? ⟨w.heap.size + 1, 3, none⟩ = some (.int .i64 s0) ∧ w1.drew.cell? ⟨w.heap.size + 1, 4, none⟩ = some (.int .i64 k) ∧ w1.drew.cell? ⟨w.heap.size, 0, none⟩ = some (.int .i64 v.id) ∧ w1.drew.cell? ⟨w.heap.size, 1, none⟩ = some (.slice v.no v.n.length v.nc) ∧ w1.drew.cell? ⟨w.heap.size, 2, none⟩ = some (.slice (some ⟨g, off, none⟩) v.cs.length v.mc) ∧ w1.drew.cell? ⟨w.heap.size, 3, none⟩ = some (.slice v.eo v.e.length v.ec) ∧ w1.drew.cell? ⟨g, off + j * 3, none⟩ = some (.int .i64 c.md.rounds) ∧ w1.drew.cell? ⟨g, off + j * 3 + 1, none⟩ = some (.int .i64 c.md.slots) := ⟨HX1.out.bs.s.1, HX1.out.bs.s.2.1, HX1.out.bs.s.2.2.1, HX1.out.bs.s.2.2.2.1, HX1.out.bs.s.2.2.2.2, HX1.out.bs.m.1, HX1.out.bs.m.2.1, h2c, HX1.out.bs.m.2.2.2, M1.out.c0, M1.out.c1⟩
  clear h2c
  have hD := HDS.out
  rw [E0.out] at hD
  have HDS1 := Lib.hid hD
  clear hD HDS
  refine wp_region_held_drew (S := fun w' => w'.cell? ⟨w.heap.size + 1, 0, none⟩ = some (.int .i64 t) ∧ w'.cell? ⟨w.heap.size + 1, 1, none⟩ = some (.int .i64 (j : Int)) ∧ w'.cell? ⟨w.heap.size + 1, 2, none⟩ = some (.int .i64 r0) ∧ w'.cell? ⟨w.heap.size + 1, 3, none⟩ = some (.int .i64 s0) ∧ w'.cell? ⟨w.heap.size + 1, 4, none⟩ = some (.int .i64 k) ∧ w'.cell? ⟨w.heap.size, 0, none⟩ = some (.int .i64 v.id) ∧ w'.cell? ⟨w.heap.size, 1, none⟩ = some (.slice v.no v.n.length v.nc) ∧ w'.cell? ⟨w.heap.size, 2, none⟩ = some (.slice (some ⟨g, off, none⟩) v.cs.length v.mc) ∧ w'.cell? ⟨w.heap.size, 3, none⟩ = some (.slice v.eo v.e.length v.ec) ∧ w'.cell? ⟨g, off + j * 3, none⟩ = some (.int .i64 c.md.rounds) ∧ w'.cell? ⟨g, off + j * 3 + 1, none⟩ = some (.int .i64 c.md.slots)) (by kernel_rfl) (hq) (fun hHeld => ?_)
  generalize w1.drew = wd at HX1 M1 hq hHeld ⊢
  refine tk (i := 0) (v := ?_) rfl (Or.inl ⟨by rfl, ?_⟩) (by assumption) ?_
  rotate_left
  · (intro w hSw; (try dsimp only at hSw); go_simp; (try with_reducible rfl))
  try simp only [pa, pb, pc, Act.put, pe, pf, pg]
  refine tk (i := 1) (v := ?_) rfl (Or.inl ⟨by rfl, ?_⟩) (by assumption) ?_
  rotate_left
  · (intro w hSw; (try dsimp only at hSw); go_simp; (try with_reducible rfl))
  try simp only [pa, pb, pc, Act.put, pe, pf, pg]
  refine tk (i := 2) (v := ?_) rfl (Or.inl ⟨by rfl, ?_⟩) (by assumption) ?_
  rotate_left
  · (intro w hSw; (try dsimp only at hSw); go_simp; (try with_reducible rfl))
  try simp only [pa, pb, pc, Act.put, pe, pf, pg]
  refine tk (i := 5) (v := ?_) rfl (Or.inl ⟨by rfl, ?_⟩) (by assumption) ?_
  rotate_left
  · (intro w hSw; (try dsimp only at hSw); go_simp; (try with_reducible rfl))
  try simp only [pa, pb, pc, Act.put, pe, pf, pg]
  refine tk (i := 6) (v := ?_) rfl (Or.inl ⟨by rfl, ?_⟩) (by assumption) ?_
  rotate_left
  · (intro w hSw; (try dsimp only at hSw); go_simp; (try with_reducible rfl))
  try simp only [pa, pb, pc, Act.put, pe, pf, pg]
  refine tk (i := 7) (v := ?_) rfl (Or.inl ⟨by rfl, ?_⟩) (by assumption) ?_
  rotate_left
  · (intro w hSw; (try dsimp only at hSw); go_simp; (try with_reducible rfl))
  try simp only [pa, pb, pc, Act.put, pe, pf, pg]
  refine tk (i := 8) (v := ?_) rfl (Or.inl ⟨by rfl, ?_⟩) (by assumption) ?_
  rotate_left
  · (intro w hSw; (try dsimp only at hSw); go_simp; (try with_reducible rfl))
  try simp only [pa, pb, pc, Act.put, pe, pf, pg]
  refine tk (i := 9) (v := ?_) rfl (Or.inl ⟨by rfl, ?_⟩) (by assumption) ?_
  rotate_left
  · (intro w hSw; (try dsimp only at hSw); go_simp; (try with_reducible rfl))
  try simp only [pa, pb, pc, Act.put, pe, pf, pg]
  refine tk (i := 10) (v := ?_) rfl (Or.inl ⟨by rfl, ?_⟩) (by assumption) ?_
  rotate_left
  · (intro w hSw; (try dsimp only at hSw); go_simp; (try with_reducible rfl))
  try simp only [pa, pb, pc, Act.put, pe, pf, pg]
  refine tk (i := 11) (v := ?_) rfl (Or.inl ⟨by rfl, ?_⟩) (by assumption) ?_
  rotate_left
  · (intro w hSw; (try dsimp only at hSw); go_simp; (try with_reducible rfl))
  try simp only [pa, pb, pc, Act.put, pe, pf, pg]
  refine tk (i := 12) (v := ?_) rfl (Or.inl ⟨by rfl, ?_⟩) (by assumption) ?_
  rotate_left
  · (intro w hSw; (try dsimp only at hSw); go_simp; (try with_reducible rfl))
  try simp only [pa, pb, pc, Act.put, pe, pf, pg]
  refine tk (i := 13) (v := ?_) rfl (Or.inl ⟨by rfl, ?_⟩) (by assumption) ?_
  rotate_left
  · (intro w hSw; (try dsimp only at hSw); go_simp; (try with_reducible rfl))
  try simp only [pa, pb, pc, Act.put, pe, pf, pg]
  refine tk (i := 14) (v := ?_) rfl (Or.inl ⟨by rfl, ?_⟩) (by assumption) ?_
  rotate_left
  · (intro w hSw; (try dsimp only at hSw); go_simp; (try with_reducible rfl))
  try simp only [pa, pb, pc, Act.put, pe, pf, pg]
  refine tk (i := 15) (v := ?_) rfl (Or.inl ⟨by rfl, ?_⟩) (by assumption) ?_
  rotate_left
  · (intro w hSw; (try dsimp only at hSw); go_simp; (try with_reducible rfl))
  try simp only [pa, pb, pc, Act.put, pe, pf, pg]
  refine tk (i := 16) (v := ?_) rfl (Or.inl ⟨by rfl, ?_⟩) (by assumption) ?_
  rotate_left
  · (intro w hSw; (try dsimp only at hSw); go_simp; (try with_reducible rfl))
  try simp only [pa, pb, pc, Act.put, pe, pf, pg]
  refine tk (i := 17) (v := ?_) rfl (Or.inl ⟨by rfl, ?_⟩) (by assumption) ?_
  rotate_left
  · (intro w hSw; (try dsimp only at hSw); go_simp; (try with_reducible rfl))
  try simp only [pa, pb, pc, Act.put, pe, pf, pg]
  refine tk (i := 18) (v := ?_) rfl (Or.inl ⟨by rfl, ?_⟩) (by assumption) ?_
  rotate_left
  · (intro w hSw; (try dsimp only at hSw); go_simp; (try with_reducible rfl))
  try simp only [pa, pb, pc, Act.put, pe, pf, pg]
  refine wpAnyH_ready (rs := [3]) (by kernel_rfl) (by simp) (AllReadyH.cons rfl (fun K hK => ?_) AllReadyH.nil)
  go_simp
  refine (HDS1.out _ HX1.out.bs.bx.rd).mono ?_
  rintro e y2 ⟨rfl, b2⟩
  have HX2 := Lib.hid (HX1.out.call b2)
  have M2 := Lib.hid (M1.out.below b2 M1.out.lt)
  clear b2 hq HX1 M1
  have h2c := HX2.out.bs.m.2.2.1
  rw [E0.out] at h2c
  have hq : y2.cell? ⟨w.heap.size + 1, 0, none⟩ = some (.int .i64 t) ∧ y2.cell? ⟨w.heap.size + 1, 1, none⟩ = some (.int .i64 (j : Int)) ∧ y2.cell? ⟨w.heap.size + 1, 2, none⟩ = some (.int .i64 r0) ∧ y2.cell? ⟨w.heap.size + 1, 3, none⟩ = some (.int .i64 s0) ∧ y2.cell? ⟨w.heap.size + 1, 4, none⟩ = some (.int .i64 k) ∧ y2.cell? ⟨w.heap.size, 0, none⟩ = some (.int .i64 v.id) ∧ y2.cell? ⟨w.heap.size, 1, none⟩ = some (.slice v.no v.n.length v.nc) ∧ y2.cell? ⟨w.heap.size, 2, none⟩ = some (.slice (some ⟨g, off, none⟩) v.cs.length v.mc) ∧ y2.cell? ⟨w.heap.size, 3, none⟩ = some (.slice v.eo v.e.length v.ec) ∧ y2.cell? ⟨g, off + j * 3, none⟩ = some (.int .i64 c.md.rounds) ∧ y2.cell? ⟨g, off + j * 3 + 1, none⟩ = some (.int .i64 c.md.slots) := ⟨HX2.out.bs.s.1, HX2.out.bs.s.2.1, HX2.out.bs.s.2.2.1, HX2.out.bs.s.2.2.2.1, HX2.out.bs.s.2.2.2.2, HX2.out.bs.m.1, HX2.out.bs.m.2.1, h2c, HX2.out.bs.m.2.2.2, M2.out.c0, M2.out.c1⟩
  clear h2c
  go_wp2_with fail
  refine hK.out _ _ ?_ (fun hHeld => ?_)
  · exact hq
  clear hK K
  try simp only [pa, pb, pc, Act.put, pe, pf, pg]
  refine tk (i := 4) (v := .int .i64 D.dur) rfl (Or.inl ⟨by rfl, fun w hSw => by rfl⟩) (by assumption) ?_
  try simp only [pa, pb, pc, Act.put, pe, pf, pg]
  refine wpAnyH_ready (rs := [19]) (by kernel_rfl) (by simp) (AllReadyH.cons rfl (fun K hK => ?_) AllReadyH.nil)
  go_simp
  refine (HAD.out _).mono ?_
  rintro e y3 ⟨rfl, b3⟩
  have HX3 := Lib.hid (HX2.out.call b3)
  have M3 := Lib.hid (M2.out.below b3 M2.out.lt)
  clear b3 hq HX2 M2
  have h2c := HX3.out.bs.m.2.2.1
  rw [E0.out] at h2c
  have hq : y3.cell? ⟨w.heap.size + 1, 0, none⟩ = some (.int .i64 t) ∧ y3.cell? ⟨w.heap.size + 1, 1, none⟩ = some (.int .i64 (j : Int)) ∧ y3.cell? ⟨w.heap.size + 1, 2, none⟩ = some (.int .i64 r0) ∧ y3.cell? ⟨w.heap.size + 1, 3, none⟩ = some (.int .i64 s0) ∧ y3.cell? ⟨w.heap.size + 1, 4, none⟩ = some (.int .i64 k) ∧ y3.cell? ⟨w.heap.size, 0, none⟩ = some (.int .i64 v.id) ∧ y3.cell? ⟨w.heap.size, 1, none⟩ = some (.slice v.no v.n.length v.nc) ∧ y3.cell? ⟨w.heap.size, 2, none⟩ = some (.slice (some ⟨g, off, none⟩) v.cs.length v.mc) ∧ y3.cell? ⟨w.heap.size, 3, none⟩ = some (.slice v.eo v.e.length v.ec) ∧ y3.cell? ⟨g, off + j * 3, none⟩ = some (.int .i64 c.md.rounds) ∧ y3.cell? ⟨g, off + j * 3 + 1, none⟩ = some (.int .i64 c.md.slots) := ⟨HX3.out.bs.s.1, HX3.out.bs.s.2.1, HX3.out.bs.s.2.2.1, HX3.out.bs.s.2.2.2.1, HX3.out.bs.s.2.2.2.2, HX3.out.bs.m.1, HX3.out.bs.m.2.1, h2c, HX3.out.bs.m.2.2.2, M3.out.c0, M3.out.c1⟩
  clear h2c
  go_wp2_with fail
  refine hK.out _ _ ?_ (fun hHeld => ?_)
  · exact hq
  clear hK K
  try simp only [pa, pb, pc, Act.put, pe, pf, pg]
  have hb2 := below_five (B := w.heap.size + 2) (w := y3) (Nat.le_refl _) y.t y.m y.r y.s y.k
  have hgr := grown_fiveL y3 (w.heap.size + 2) y.t y.m y.r y.s y.k
  have hs2 : SsAt (setFive y3 (w.heap.size + 2) y.t y.m y.r y.s y.k) (w.heap.size + 1) ⟨t, (j : Int), r0, s0, k⟩ := StateAt.below HX3.out.bs.st hb2 (Nat.lt_succ_self _)
  have hm2 := (HX3.out.bs.bx.at_.below hb2 (by omega)).all
  have hbw := HX3.out.bs.bx.below.trans (hb2.mono (show w.heap.size ≤ w.heap.size + 2 by omega))
  have hM4 : McIn (setFive y3 (w.heap.size + 2) y.t y.m y.r y.s y.k) g (off + j * 3) c := M3.out.grownL hgr (fun e => by injection e with e; have := HGL.out; omega)
  have h2c := hm2.2.2.1
  rw [E0.out] at h2c
  have hq3 : (setFive y3 (w.heap.size + 2) y.t y.m y.r y.s y.k).cell? ⟨w.heap.size + 1, 0, none⟩ = some (.int .i64 t) ∧ (setFive y3 (w.heap.size + 2) y.t y.m y.r y.s y.k).cell? ⟨w.heap.size + 1, 1, none⟩ = some (.int .i64 (j : Int)) ∧ (setFive y3 (w.heap.size + 2) y.t y.m y.r y.s y.k).cell? ⟨w.heap.size + 1, 2, none⟩ = some (.int .i64 r0) ∧ (setFive y3 (w.heap.size + 2) y.t y.m y.r y.s y.k).cell? ⟨w.heap.size + 1, 3, none⟩ = some (.int .i64 s0) ∧ (setFive y3 (w.heap.size + 2) y.t y.m y.r y.s y.k).cell? ⟨w.heap.size + 1, 4, none⟩ = some (.int .i64 k) ∧ (setFive y3 (w.heap.size + 2) y.t y.m y.r y.s y.k).cell? ⟨w.heap.size, 0, none⟩ = some (.int .i64 v.id) ∧ (setFive y3 (w.heap.size + 2) y.t y.m y.r y.s y.k).cell? ⟨w.heap.size, 1, none⟩ = some (.slice v.no v.n.length v.nc) ∧ (setFive y3 (w.heap.size + 2) y.t y.m y.r y.s y.k).cell? ⟨w.heap.size, 2, none⟩ = some (.slice (some ⟨g, off, none⟩) v.cs.length v.mc) ∧ (setFive y3 (w.heap.size + 2) y.t y.m y.r y.s y.k).cell? ⟨w.heap.size, 3, none⟩ = some (.slice v.eo v.e.length v.ec) ∧ (setFive y3 (w.heap.size + 2) y.t y.m y.r y.s y.k).cell? ⟨g, off + j * 3, none⟩ = some (.int .i64 c.md.rounds) ∧ (setFive y3 (w.heap.size + 2) y.t y.m y.r y.s y.k).cell? ⟨g, off + j * 3 + 1, none⟩ = some (.int .i64 c.md.slots) := ⟨hs2.all.1, hs2.all.2.1, hs2.all.2.2.1, hs2.all.2.2.2.1, hs2.all.2.2.2.2, hm2.1, hm2.2.1, h2c, hm2.2.2.2, hM4.c0, hM4.c1⟩
  have HF1 := Lib.hid (StateAt.five HX3.out.box y.t y.m y.r y.s y.k)
  have HF2 := Lib.hid hbw
  have g0 := HX3.out.box.c0; have g1 := HX3.out.box.c1; have g2 := HX3.out.box.c2; have g3 := HX3.out.box.c3; have g4 := HX3.out.box.c4
  have f0 := HX3.out.box.f 0; have f1 := HX3.out.box.f 1; have f2 := HX3.out.box.f 2; have f3 := HX3.out.box.f 3; have f4 := HX3.out.box.f 4
  clear hb2 hs2 hm2 hbw hgr hM4 h2c
  refine wpAnyH_ready (rs := [20]) (by kernel_rfl) (by simp) (AllReadyH.cons rfl (fun K hK => ?_) AllReadyH.nil)
  go_simp
  refine hK.out _ _ ?_ (fun hHeld => ?_)
  · exact hq3
  clear hK K g0 g1 g2 g3 g4 f0 f1 f2 f3 f4 hq3 hq
  try simp only [pa, pb, pc, Act.put, pe, pf, pg]
  refine wpAnyH_done (by kernel_rfl) ?_ _
  go_wp2_with fail
  change bodyPost _ _ _ _ _ (setFive y3 (w.heap.size + 2) y.t y.m y.r y.s y.k)
  clear hHeld
  generalize (setFive y3 (w.heap.size + 2) y.t y.m y.r y.s y.k) = w5 at HF1 HF2 ⊢
  have e0 := HF1.out.c0; have e1 := HF1.out.c1; have e2 := HF1.out.c2; have e3 := HF1.out.c3; have e4 := HF1.out.c4
  exact bodyPost_ret (v := ssVal y) (by simp [ssVal, results, Tryz.results74, go_sem, e0, e1, e2, e3, e4]) rfl ⟨rfl, HF2.out⟩
end
end Go.Proofs.YthihjhidjnadaaaGreat
