/-
  Contracts of the program's, the model's and the laws' functions, and plain mathematics, on which a proof of this claim stands (part G).
-/

import Derived.Test.YthihjhidjnadaaaGreatP21D
import Derived.Test.YthihjhidjnadaaaGreatP21I
import Derived.Test.YthihjhidjnadaaaGreatP21N
import Derived.Test.YthihjhidjnadaaaGreatP21M
import Derived.Test.YthihjhidjnadaaaGreatP21A
import Derived.Test.YthihjhidjnadaaaGreatP21S
import Derived.Test.YthihjhidjnadaaaGreatP21E
namespace Go.Proofs.YthihjhidjnadaaaGreat
section
open Go.RowKit
theorem DzSt.finL {w W : World} {p B : Nat} {v : Mv} (h : DzSt w W p B v) : MvAt 28 (setMv W w.heap.size v) w.heap.size v ∧ LowMe (setMv W w.heap.size v) w.heap.size v ∧ AnyMv v ∧ Below w.heap.size w (setMv W w.heap.size v) ∧ MvAt 28 (setMv W w.heap.size v) B v := by
  have hlo := h.lo
  have hlb := h.lb
  exact ⟨h.res.put v, (h.t.far (grown_setMv W w.heap.size v) (by omega)).more (by omega), h.a, h.below.trans (below_setMv (Nat.le_refl _) v), h.box.grown (grown_setMv W w.heap.size v) (fun e => by injection e with e; omega)⟩
def DrawnVL (w : World) (e : Ending) (w' : World) : Prop := ∃ (v : Mv) (k t : Int), e = .returned (.tuple #[mvVal v, .int .i64 k, .int .i64 t]) ∧ LowMe w' w.heap.size v ∧ AnyMv v ∧ Below w.heap.size w w'
def DrawnVC (w : World) (e : Ending) (w' : World) : Prop := ∃ (v : Mv) (k a b : Int), e = .returned (.tuple #[mvVal v, .int .i64 k, .int .i64 a, .int .i64 b]) ∧ LowMe w' w.heap.size v ∧ AnyMv v ∧ Below w.heap.size w w'
set_option linter.unusedSimpArgs false in
set_option maxRecDepth 100000 in
set_option maxHeartbeats 4000000 in
theorem drawSendTimesL_any (ao : Option Addr) (n cap : Nat) (xs : List Int) (w : World) (hr : RdB w w.heap.size ao n xs) (hn : n ≤ 1048576) :
    Calls Tryz.prog 87 #[.slice ao n cap] w (DrawnVL w) := by
  have hb0 : Below w.heap.size w (w.alloc (.cells #[.int .i64 0, .slice none 0 0, .slice none 0 0, .slice none 0 0] 28)) := (Below.refl _ _).alloc (Nat.le_refl _) _
  have HR0 := Lib.hid (show MvAt 28 (w.alloc (.cells #[.int .i64 0, .slice none 0 0, .slice none 0 0, .slice none 0 0] 28)) w.heap.size Mv.zero from MvAt.new (v := Mv.zero) w)
  have HRB := Lib.hid (rdB_later hr hb0); have HB0 := Lib.hid hb0
  have hz0 : (w.alloc (.cells #[.int .i64 0, .slice none 0 0, .slice none 0 0, .slice none 0 0] 28)).heap.size = w.heap.size + 1 := World.size_alloc ..
  clear hr hb0
  go_enter Tryz.func87, Tryz.ntmps87
  go_upto_region 1 with fail
  generalize w.alloc (.cells #[.int .i64 0, .slice none 0 0, .slice none 0 0, .slice none 0 0] 28) = w0 at HR0 HRB HB0 hz0 ⊢
  go_wp2_with fail
  refine (from_any _ _ _ xs _ HRB.out hn).mono ?_
  rintro e w1 ⟨p, rfl, hlo, hs1, hb1⟩
  rw [hz0] at hlo
  have HR1 := Lib.hid (HR0.out.below hb1 HR0.out.lt); have HS1 := Lib.hid hs1; have HB1 := Lib.hid (below_two HB0.out hb1)
  have hp1 : p < w1.heap.size := hs1.lt
  clear hs1 hb1 HR0 HRB HB0 hz0
  go_wp2_with fail
  refine (l13DrawAny_any p _ HS1.out).mono ?_
  rintro e w2 ⟨v, rfl, lo2, an2, hs2, g2⟩
  have hb3 := (Below.refl w2.heap.size w2).alloc (Nat.le_refl _) (.cells #[.int .i64 v.id, .slice v.no v.n.length v.nc, .slice v.mo v.cs.length v.mc, .slice v.eo v.e.length v.ec] 28)
  have hr2 := HR1.out.grown g2 (fun e => by injection e with e; omega)
  have hz2 := Nat.lt_of_lt_of_le hp1 g2.size
  have HZ := Lib.hid (show DzSt w (w2.alloc (.cells #[.int .i64 v.id, .slice v.no v.n.length v.nc, .slice v.mo v.cs.length v.mc, .slice v.eo v.e.length v.ec] 28)) p w2.heap.size v from ⟨hs2.below hb3, hlo, hr2.below hb3 hr2.lt, MvAt.new w2, by omega, hr2.lt, (lo2.more hp1).below hb3, an2, (HB1.out.grown g2 HB1.out.size (fun k hk => by cases hk; omega)).alloc (Nat.le_trans HB1.out.size g2.size) _⟩)
  clear lo2 an2 hs2 g2 hb3 hr2 HR1 HS1 HB1 hz2 hlo hp1
  unfold mvVal
  go_upto_region 3 with fail
  generalize w2.alloc (.cells #[.int .i64 v.id, .slice v.no v.n.length v.nc, .slice v.mo v.cs.length v.mc, .slice v.eo v.e.length v.ec] 28) = w3 at HZ ⊢
  generalize w2.heap.size = B at HZ ⊢
  obtain ⟨b0, b1, b2, b3⟩ := HZ.out.box.all
  have hcl : v.cs.length ≤ 17 := HZ.out.a.cs.1
  go_wp2_with fail
  refine (l11DrawMode_any _ _ _ _ _ HZ.out.s hcl).mono ?_
  rintro e w4 ⟨k, rfl, hs4, g4⟩
  have HZ4 := Lib.hid (HZ.out.next hs4 g4)
  clear b0 b1 b2 b3 hs4 g4 HZ
  obtain ⟨b0, b1, b2, b3⟩ := HZ4.out.box.all
  have hnl : v.n.length ≤ 5 := HZ4.out.a.nl
  rcases Nat.eq_zero_or_pos v.n.length with h0 | h0d
  · obtain ⟨id, n, no, nc, cs, mo, mc, es, eo, ec⟩ := v
    have hn0 : n = [] := List.length_eq_zero_iff.1 h0
    subst hn0
    clear h0 hnl
    simp only [List.length_nil] at b0 b1 b2 b3
    go_upto_region 6 with fail
    have HZd := Lib.hid (HZ4.out.call (Below.drew (Below.refl _ _)))
    have hq := HZd.out.box.all
    simp only [List.length_nil] at hq
    clear HZ4 b0 b1 b2 b3
    refine wp_region_held_drew (S := fun w' => w'.cell? ⟨B, 0, none⟩ = some (.int .i64 id) ∧ w'.cell? ⟨B, 1, none⟩ = some (.slice no 0 nc) ∧ w'.cell? ⟨B, 2, none⟩ = some (.slice mo cs.length mc) ∧ w'.cell? ⟨B, 3, none⟩ = some (.slice eo es.length ec)) (by kernel_rfl) (hq) (fun hHeld => ?_)
    generalize w4.drew = wd at HZd hq hHeld ⊢
    refine wpAnyH_take (i := 0) (v := ?_) rfl (by kernel_rfl) (by kernel_rfl) (by kernel_rfl) (fun _ _ _ h => h) (Or.inl ⟨by rfl, ?_⟩) (by assumption) ?_
    rotate_left
    · (intro w hSw; (try dsimp only at hSw); go_simp; (try with_reducible rfl))
    try simp only [pa, pb, pc, Act.put, pe, pf, pg]
    refine wpAnyH_take (i := 1) (v := ?_) rfl (by kernel_rfl) (by kernel_rfl) (by kernel_rfl) (fun _ _ _ h => h) (Or.inl ⟨by rfl, ?_⟩) (by assumption) ?_
    rotate_left
    · (intro w hSw; (try dsimp only at hSw); go_simp; (try with_reducible rfl))
    try simp only [pa, pb, pc, Act.put, pe, pf, pg]
    refine wpAnyH_take (i := 2) (v := ?_) rfl (by kernel_rfl) (by kernel_rfl) (by kernel_rfl) (fun _ _ _ h => h) (Or.inl ⟨by rfl, ?_⟩) (by assumption) ?_
    rotate_left
    · (intro w hSw; (try dsimp only at hSw); go_simp; (try with_reducible rfl))
    try simp only [pa, pb, pc, Act.put, pe, pf, pg]
    refine wpAnyH_ready (rs := [3]) (by kernel_rfl) (by simp) (AllReadyH.cons rfl (fun K hK => ?_) AllReadyH.nil)
    go_simp
    refine (l05DrawNode_any _ _ HZd.out.s).mono ?_
    rintro e w7 ⟨y, rfl, hs, g⟩
    have HZ7 := Lib.hid (HZd.out.next hs g)
    clear hs g hq HZd
    have hq := HZ7.out.box.all
    simp only [List.length_nil] at hq
    go_wp2_with fail
    refine hK.out _ _ ?_ (fun hHeld => ?_)
    · exact hq
    clear hK K
    try simp only [pa, pb, pc, Act.put, pe, pf, pg]
    have hr0 := HZ7.out.res.all
    dsimp only [Mv.zero, List.length_nil] at hr0
    obtain ⟨r0, r1, r2, r3⟩ := hr0
    have f0 := HZ7.out.res.f 0; have f1 := HZ7.out.res.f 1; have f2 := HZ7.out.res.f 2; have f3 := HZ7.out.res.f 3
    have HF := Lib.hid HZ7.out.finL
    have hqf := HF.out.2.2.2.2.all; simp only [List.length_nil] at hqf
    refine wpAnyH_ready (rs := [4]) (by kernel_rfl) (by simp) (AllReadyH.cons rfl (fun K hK => ?_) AllReadyH.nil)
    go_simp
    refine hK.out _ _ ?_ (fun hHeld => ?_)
    · exact hqf
    clear hK r0 r1 r2 r3 f0 f1 f2 f3 hqf HZ7 hq
    try simp only [pa, pb, pc, Act.put, pe, pf, pg]
    refine wpAnyH_take (i := 5) (v := ?_) rfl (by kernel_rfl) (by kernel_rfl) (by kernel_rfl) (fun _ _ _ h => h) (Or.inl ⟨by rfl, ?_⟩) (by assumption) ?_
    rotate_left
    · (intro w hSw; (try dsimp only at hSw); go_simp; (try with_reducible rfl))
    try simp only [pa, pb, pc, Act.put, pe, pf, pg]
    refine wpAnyH_take (i := 6) (v := ?_) rfl (by kernel_rfl) (by kernel_rfl) (by kernel_rfl) (fun _ _ _ h => h) (Or.inl ⟨by rfl, ?_⟩) (by assumption) ?_
    rotate_left
    · (intro w hSw; (try dsimp only at hSw); go_simp; (try with_reducible rfl))
    try simp only [pa, pb, pc, Act.put, pe, pf, pg]
    refine wpAnyH_done (by kernel_rfl) ?_ _
    go_wp2_with fail
    change bodyPost _ _ _ _ _ (setMv w7 w.heap.size ⟨id, [], no, nc, cs, mo, mc, es, eo, ec⟩)
    clear hHeld
    generalize setMv w7 w.heap.size ⟨id, [], no, nc, cs, mo, mc, es, eo, ec⟩ = wz at HF ⊢
    obtain ⟨h1, h2, h3, h4, -⟩ := HF.out
    obtain ⟨e0, e1, e2, e3⟩ := h1.all
    exact bodyPost_ret (v := .tuple #[mvVal ⟨id, [], no, nc, cs, mo, mc, es, eo, ec⟩, .int .i64 k, .int .i64 y]) (by simp [mvVal, results, Tryz.results87, go_sem, e0, e1, e2, e3]) rfl ⟨⟨id, [], no, nc, cs, mo, mc, es, eo, ec⟩, k, y, rfl, h2, h3, h4⟩
  · go_wp2_with fail
    refine (next_any _ _ _ HZ4.out.s (by omega)).mono ?_
    rintro e w5 ⟨rr, rfl, rr0, -, -, hs, g⟩
    have HZ5 := Lib.hid (HZ4.out.next hs g)
    clear hs g HZ4 b0 b1 b2 b3
    by_cases h1 : 0 < rr
    · obtain ⟨id, n, no, nc, cs, mo, mc, es, eo, ec⟩ := v
      obtain ⟨g, off, e0, -⟩ := HZ5.out.t.rn.here h0d
      dsimp only at e0 h0d hnl
      subst e0
      go_upto_region 5 with fail
      have HZd := Lib.hid (HZ5.out.call (Below.drew (Below.refl w5.heap.size w5)))
      have hq := HZd.out.box.all
      dsimp only at hq
      clear HZ5
      refine wp_region_held_drew (S := fun w' => w'.cell? ⟨B, 0, none⟩ = some (.int .i64 id) ∧ w'.cell? ⟨B, 1, none⟩ = some (.slice (some ⟨g, off, none⟩) n.length nc) ∧ w'.cell? ⟨B, 2, none⟩ = some (.slice mo cs.length mc) ∧ w'.cell? ⟨B, 3, none⟩ = some (.slice eo es.length ec)) (by kernel_rfl) (hq) (fun hHeld => ?_)
      generalize w5.drew = wd at HZd hq hHeld ⊢
      refine wpAnyH_take (i := 0) (v := ?_) rfl (by kernel_rfl) (by kernel_rfl) (by kernel_rfl) (fun _ _ _ h => h) (Or.inl ⟨by rfl, ?_⟩) (by assumption) ?_
      rotate_left
      · (intro w hSw; (try dsimp only at hSw); go_simp; (try with_reducible rfl))
      try simp only [pa, pb, pc, Act.put, pe, pf, pg]
      refine wpAnyH_take (i := 1) (v := ?_) rfl (by kernel_rfl) (by kernel_rfl) (by kernel_rfl) (fun _ _ _ h => h) (Or.inl ⟨by rfl, ?_⟩) (by assumption) ?_
      rotate_left
      · (intro w hSw; (try dsimp only at hSw); go_simp; (try with_reducible rfl))
      try simp only [pa, pb, pc, Act.put, pe, pf, pg]
      refine wpAnyH_take (i := 2) (v := ?_) rfl (by kernel_rfl) (by kernel_rfl) (by kernel_rfl) (fun _ _ _ h => h) (Or.inl ⟨by rfl, ?_⟩) (by assumption) ?_
      rotate_left
      · (intro w hSw; (try dsimp only at hSw); go_simp; (try with_reducible rfl))
      try simp only [pa, pb, pc, Act.put, pe, pf, pg]
      refine wpAnyH_take (i := 3) (v := ?_) rfl (by kernel_rfl) (by kernel_rfl) (by kernel_rfl) (fun _ _ _ h => h) (Or.inl ⟨by rfl, ?_⟩) (by assumption) ?_
      rotate_left
      · (intro w hSw; (try dsimp only at hSw); go_simp; (try with_reducible rfl))
      try simp only [pa, pb, pc, Act.put, pe, pf, pg]
      refine wpAnyH_take (i := 4) (v := ?_) rfl (by kernel_rfl) (by kernel_rfl) (by kernel_rfl) (fun _ _ _ h => h) (Or.inl ⟨by rfl, ?_⟩) (by assumption) ?_
      rotate_left
      · (intro w hSw; (try dsimp only at hSw); go_simp; (try with_reducible rfl))
      try simp only [pa, pb, pc, Act.put, pe, pf, pg]
      refine wpAnyH_take (i := 5) (v := ?_) rfl (by kernel_rfl) (by kernel_rfl) (by kernel_rfl) (fun _ _ _ h => h) (Or.inl ⟨by rfl, ?_⟩) (by assumption) ?_
      rotate_left
      · (intro w hSw; (try dsimp only at hSw); go_simp; (try with_reducible rfl))
      try simp only [pa, pb, pc, Act.put, pe, pf, pg]
      refine wpAnyH_take (i := 6) (v := ?_) rfl (by kernel_rfl) (by kernel_rfl) (by kernel_rfl) (fun _ _ _ h => h) (Or.inl ⟨by rfl, ?_⟩) (by assumption) ?_
      rotate_left
      · (intro w hSw; (try dsimp only at hSw); go_simp; (try with_reducible rfl))
      try simp only [pa, pb, pc, Act.put, pe, pf, pg]
      refine wpAnyH_take (i := 7) (v := ?_) rfl (by kernel_rfl) (by kernel_rfl) (by kernel_rfl) (fun _ _ _ h => h) (Or.inl ⟨by rfl, ?_⟩) (by assumption) ?_
      rotate_left
      · (intro w hSw; (try dsimp only at hSw); go_simp; (try with_reducible rfl))
      try simp only [pa, pb, pc, Act.put, pe, pf, pg]
      refine wpAnyH_ready (rs := [8]) (by kernel_rfl) (by simp) (AllReadyH.cons rfl (fun K hK => ?_) AllReadyH.nil)
      go_simp
      refine (next_any _ _ _ HZd.out.s (by omega)).mono ?_
      rintro e w6 ⟨a, rfl, a0, ax, az, hs, g⟩
      have HZ6 := Lib.hid (HZd.out.next hs g)
      clear hs g hq HZd
      have hq := HZ6.out.box.all
      dsimp only at hq
      go_wp2_with fail
      refine hK.out _ _ ?_ (fun hHeld => ?_)
      · exact hq
      clear hK K
      try simp only [pa, pb, pc, Act.put, pe, pf, pg]
      obtain ⟨ai, hai⟩ : ∃ i : Nat, a = i := ⟨a.toNat, by omega⟩
      subst hai
      have hlt : ai < n.length := by
        by_cases h2 : 1 < (n.length : Int)
        · have := ax h2; omega
        · have := az (by omega); omega
      clear ax az
      obtain ⟨g', off', e0, hx⟩ := HZ6.out.t.rn.here h0d
      dsimp only at e0 hx
      cases e0
      have hx0 := (hx ai hlt).c0
      obtain ⟨y, hyy⟩ : ∃ y, (ndOf n ai).id = y := ⟨_, rfl⟩
      rw [hyy] at hx0
      clear hx
      refine wpAnyH_take (i := 9) (v := ?_) rfl (by kernel_rfl) (by kernel_rfl) (by kernel_rfl) (fun _ _ _ h => h) (Or.inl ⟨by rfl, ?_⟩) (by assumption) ?_
      rotate_left
      · (intro w hSw; (try dsimp only at hSw); go_simp; (try with_reducible rfl))
      try simp only [pa, pb, pc, Act.put, pe, pf, pg]
      refine wpAnyH_take (i := 10) (v := ?_) rfl (by kernel_rfl) (by kernel_rfl) (by kernel_rfl) (fun _ _ _ h => h) (Or.inl ⟨by rfl, ?_⟩) (by assumption) ?_
      rotate_left
      · (intro w hSw; (try dsimp only at hSw); go_simp; (try with_reducible rfl))
      try simp only [pa, pb, pc, Act.put, pe, pf, pg]
      refine wpAnyH_ready (rs := [11, 12]) (by kernel_rfl) (by simp) (AllReadyH.cons rfl (fun K hK => ?_) (AllReadyH.cons rfl (fun K hK => ?_) AllReadyH.nil))
      · go_simp
        clear hx0
        refine hK.out _ _ ?_ (fun hHeld => ?_)
        · exact hq
        clear hK K
        try simp only [pa, pb, pc, Act.put, pe, pf, pg]
        have hr0 := HZ6.out.res.all
        dsimp only [Mv.zero, List.length_nil] at hr0
        obtain ⟨r0, r1, r2, r3⟩ := hr0
        have f0 := HZ6.out.res.f 0; have f1 := HZ6.out.res.f 1; have f2 := HZ6.out.res.f 2; have f3 := HZ6.out.res.f 3
        have HF := Lib.hid HZ6.out.finL
        have hqf := HF.out.2.2.2.2.all; dsimp only at hqf
        refine wpAnyH_ready (rs := [12]) (by kernel_rfl) (by simp) (AllReadyH.cons rfl (fun K hK => ?_) AllReadyH.nil)
        go_simp
        refine hK.out _ _ ?_ (fun hHeld => ?_)
        · exact hqf
        clear hK K r0 r1 r2 r3 f0 f1 f2 f3 hqf HZ6 hq
        try simp only [pa, pb, pc, Act.put, pe, pf, pg]
        refine wpAnyH_take (i := 13) (v := ?_) rfl (by kernel_rfl) (by kernel_rfl) (by kernel_rfl) (fun _ _ _ h => h) (Or.inl ⟨by rfl, ?_⟩) (by assumption) ?_
        rotate_left
        · (intro w hSw; (try dsimp only at hSw); go_simp; (try with_reducible rfl))
        try simp only [pa, pb, pc, Act.put, pe, pf, pg]
        refine wpAnyH_take (i := 14) (v := ?_) rfl (by kernel_rfl) (by kernel_rfl) (by kernel_rfl) (fun _ _ _ h => h) (Or.inl ⟨by rfl, ?_⟩) (by assumption) ?_
        rotate_left
        · (intro w hSw; (try dsimp only at hSw); go_simp; (try with_reducible rfl))
        try simp only [pa, pb, pc, Act.put, pe, pf, pg]
        refine wpAnyH_done (by kernel_rfl) ?_ _
        go_wp2_with fail
        change bodyPost _ _ _ _ _ (setMv w6 w.heap.size ⟨id, n, some ⟨g, off, none⟩, nc, cs, mo, mc, es, eo, ec⟩)
        clear hHeld
        generalize setMv w6 w.heap.size ⟨id, n, some ⟨g, off, none⟩, nc, cs, mo, mc, es, eo, ec⟩ = wz at HF ⊢
        obtain ⟨h1, h2, h3, h4, -⟩ := HF.out
        obtain ⟨e0, e1, e2, e3⟩ := h1.all
        exact bodyPost_ret (v := .tuple #[mvVal ⟨id, n, some ⟨g, off, none⟩, nc, cs, mo, mc, es, eo, ec⟩, .int .i64 k, .int .i64 y]) (by simp [mvVal, results, Tryz.results87, go_sem, e0, e1, e2, e3]) rfl ⟨⟨id, n, some ⟨g, off, none⟩, nc, cs, mo, mc, es, eo, ec⟩, k, y, rfl, h2, h3, h4⟩
      · have hr0 := HZ6.out.res.all
        dsimp only [Mv.zero, List.length_nil] at hr0
        obtain ⟨r0, r1, r2, r3⟩ := hr0
        have f0 := HZ6.out.res.f 0; have f1 := HZ6.out.res.f 1; have f2 := HZ6.out.res.f 2; have f3 := HZ6.out.res.f 3
        have HF := Lib.hid HZ6.out.finL
        have hqf := HF.out.2.2.2.2.all; dsimp only at hqf
        go_simp
        refine hK.out _ (setMv w6 w.heap.size ⟨id, n, some ⟨g, off, none⟩, nc, cs, mo, mc, es, eo, ec⟩) ?_ (fun hHeld => ?_)
        · exact hqf
        obtain ⟨g', off', e0', hy⟩ := HF.out.2.1.rn.here h0d
        dsimp only at e0' hy
        cases e0'
        have hy0 := (hy ai hlt).c0
        rw [hyy] at hy0
        clear hy hx0
        clear hK K r0 r1 r2 r3 f0 f1 f2 f3 HZ6 hq
        generalize (setMv w6 w.heap.size ⟨id, n, some ⟨g, off, none⟩, nc, cs, mo, mc, es, eo, ec⟩) = wz at HF hqf hy0 hHeld ⊢
        try simp only [pa, pb, pc, Act.put, pe, pf, pg]
        refine wpAnyH_take (i := 13) (v := ?_) rfl (by kernel_rfl) (by kernel_rfl) (by kernel_rfl) (fun _ _ _ h => h) (Or.inl ⟨by rfl, ?_⟩) (by assumption) ?_
        rotate_left
        · (intro w hSw; (try dsimp only at hSw); go_simp; (try with_reducible rfl))
        try simp only [pa, pb, pc, Act.put, pe, pf, pg]
        refine wpAnyH_ready (rs := [11]) (by kernel_rfl) (by simp) (AllReadyH.cons rfl (fun K hK => ?_) AllReadyH.nil)
        go_simp
        clear hy0
        refine hK.out _ _ ?_ (fun hHeld => ?_)
        · exact hqf
        clear hK K
        try simp only [pa, pb, pc, Act.put, pe, pf, pg]
        refine wpAnyH_take (i := 14) (v := ?_) rfl (by kernel_rfl) (by kernel_rfl) (by kernel_rfl) (fun _ _ _ h => h) (Or.inl ⟨by rfl, ?_⟩) (by assumption) ?_
        rotate_left
        · (intro w hSw; (try dsimp only at hSw); go_simp; (try with_reducible rfl))
        try simp only [pa, pb, pc, Act.put, pe, pf, pg]
        refine wpAnyH_done (by kernel_rfl) ?_ _
        go_wp2_with fail
        clear hHeld hqf
        obtain ⟨h1, h2, h3, h4, -⟩ := HF.out
        obtain ⟨e0, e1, e2, e3⟩ := h1.all
        dsimp only at e0 e1 e2 e3
        exact bodyPost_ret (v := .tuple #[mvVal ⟨id, n, some ⟨g, off, none⟩, nc, cs, mo, mc, es, eo, ec⟩, .int .i64 k, .int .i64 y]) (by simp [mvVal, results, Tryz.results87, go_sem, e0, e1, e2, e3]) rfl ⟨⟨id, n, some ⟨g, off, none⟩, nc, cs, mo, mc, es, eo, ec⟩, k, y, rfl, h2, h3, h4⟩
    · have h1d : ¬ 0 < rr := h1
      go_upto_region 6 with fail
      have HZd := Lib.hid (HZ5.out.call (Below.drew (Below.refl _ _)))
      have hq := HZd.out.box.all
      clear HZ5
      refine wp_region_held_drew (S := fun w' => w'.cell? ⟨B, 0, none⟩ = some (.int .i64 v.id) ∧ w'.cell? ⟨B, 1, none⟩ = some (.slice v.no v.n.length v.nc) ∧ w'.cell? ⟨B, 2, none⟩ = some (.slice v.mo v.cs.length v.mc) ∧ w'.cell? ⟨B, 3, none⟩ = some (.slice v.eo v.e.length v.ec)) (by kernel_rfl) (hq) (fun hHeld => ?_)
      generalize w5.drew = wd at HZd hq hHeld ⊢
      refine wpAnyH_take (i := 0) (v := ?_) rfl (by kernel_rfl) (by kernel_rfl) (by kernel_rfl) (fun _ _ _ h => h) (Or.inl ⟨by rfl, ?_⟩) (by assumption) ?_
      rotate_left
      · (intro w hSw; (try dsimp only at hSw); go_simp; (try with_reducible rfl))
      try simp only [pa, pb, pc, Act.put, pe, pf, pg]
      refine wpAnyH_take (i := 1) (v := ?_) rfl (by kernel_rfl) (by kernel_rfl) (by kernel_rfl) (fun _ _ _ h => h) (Or.inl ⟨by rfl, ?_⟩) (by assumption) ?_
      rotate_left
      · (intro w hSw; (try dsimp only at hSw); go_simp; (try with_reducible rfl))
      try simp only [pa, pb, pc, Act.put, pe, pf, pg]
      refine wpAnyH_take (i := 2) (v := ?_) rfl (by kernel_rfl) (by kernel_rfl) (by kernel_rfl) (fun _ _ _ h => h) (Or.inl ⟨by rfl, ?_⟩) (by assumption) ?_
      rotate_left
      · (intro w hSw; (try dsimp only at hSw); go_simp; (try with_reducible rfl))
      try simp only [pa, pb, pc, Act.put, pe, pf, pg]
      refine wpAnyH_ready (rs := [3]) (by kernel_rfl) (by simp) (AllReadyH.cons rfl (fun K hK => ?_) AllReadyH.nil)
      go_simp
      refine (l05DrawNode_any _ _ HZd.out.s).mono ?_
      rintro e w7 ⟨y, rfl, hs, g⟩
      have HZ7 := Lib.hid (HZd.out.next hs g)
      clear hs g hq HZd
      have hq := HZ7.out.box.all
      go_wp2_with fail
      refine hK.out _ _ ?_ (fun hHeld => ?_)
      · exact hq
      clear hK K
      try simp only [pa, pb, pc, Act.put, pe, pf, pg]
      have hr0 := HZ7.out.res.all
      dsimp only [Mv.zero, List.length_nil] at hr0
      obtain ⟨r0, r1, r2, r3⟩ := hr0
      have f0 := HZ7.out.res.f 0; have f1 := HZ7.out.res.f 1; have f2 := HZ7.out.res.f 2; have f3 := HZ7.out.res.f 3
      have HF := Lib.hid HZ7.out.finL
      have hqf := HF.out.2.2.2.2.all
      refine wpAnyH_ready (rs := [4]) (by kernel_rfl) (by simp) (AllReadyH.cons rfl (fun K hK => ?_) AllReadyH.nil)
      go_simp
      refine hK.out _ _ ?_ (fun hHeld => ?_)
      · exact hqf
      clear hK r0 r1 r2 r3 f0 f1 f2 f3 hqf HZ7 hq
      try simp only [pa, pb, pc, Act.put, pe, pf, pg]
      refine wpAnyH_take (i := 5) (v := ?_) rfl (by kernel_rfl) (by kernel_rfl) (by kernel_rfl) (fun _ _ _ h => h) (Or.inl ⟨by rfl, ?_⟩) (by assumption) ?_
      rotate_left
      · (intro w hSw; (try dsimp only at hSw); go_simp; (try with_reducible rfl))
      try simp only [pa, pb, pc, Act.put, pe, pf, pg]
      refine wpAnyH_take (i := 6) (v := ?_) rfl (by kernel_rfl) (by kernel_rfl) (by kernel_rfl) (fun _ _ _ h => h) (Or.inl ⟨by rfl, ?_⟩) (by assumption) ?_
      rotate_left
      · (intro w hSw; (try dsimp only at hSw); go_simp; (try with_reducible rfl))
      try simp only [pa, pb, pc, Act.put, pe, pf, pg]
      refine wpAnyH_done (by kernel_rfl) ?_ _
      go_wp2_with fail
      change bodyPost _ _ _ _ _ (setMv w7 w.heap.size v)
      clear hHeld
      generalize setMv w7 w.heap.size v = wz at HF ⊢
      obtain ⟨h1, h2, h3, h4, -⟩ := HF.out
      obtain ⟨e0, e1, e2, e3⟩ := h1.all
      exact bodyPost_ret (v := .tuple #[mvVal v, .int .i64 k, .int .i64 y]) (by simp [mvVal, results, Tryz.results87, go_sem, e0, e1, e2, e3]) rfl ⟨v, k, y, rfl, h2, h3, h4⟩
set_option linter.unusedSimpArgs false in
set_option maxRecDepth 100000 in
set_option maxHeartbeats 4000000 in
theorem drawChainTime_any (ao : Option Addr) (n cap : Nat) (xs : List Int) (w : World) (hr : RdB w w.heap.size ao n xs) (hn : n ≤ 1048576) :
    Calls Tryz.prog 54 #[.slice ao n cap] w (DrawnVC w) := by
  have hr17 := hr
  have hb0 : Below w.heap.size w (w.alloc (.cells #[.int .i64 0, .slice none 0 0, .slice none 0 0, .slice none 0 0] 28)) := (Below.refl _ _).alloc (Nat.le_refl _) _
  have HR0 := Lib.hid (show MvAt 28 (w.alloc (.cells #[.int .i64 0, .slice none 0 0, .slice none 0 0, .slice none 0 0] 28)) w.heap.size Mv.zero from MvAt.new (v := Mv.zero) w)
  have HRB := Lib.hid (rdB_later hr hb0); have HB0 := Lib.hid hb0
  have hz0 : (w.alloc (.cells #[.int .i64 0, .slice none 0 0, .slice none 0 0, .slice none 0 0] 28)).heap.size = w.heap.size + 1 := World.size_alloc ..
  clear hr hb0
  go_enter Tryz.func54, Tryz.ntmps54
  go_upto_region 1 with fail
  generalize w.alloc (.cells #[.int .i64 0, .slice none 0 0, .slice none 0 0, .slice none 0 0] 28) = w0 at HR0 HRB HB0 hz0 ⊢
  go_wp2_with fail
  refine (from_any _ _ _ xs _ HRB.out hn).mono ?_
  rintro e w1 ⟨p, rfl, hlo, hs1, hb1⟩
  rw [hz0] at hlo
  have HR1 := Lib.hid (HR0.out.below hb1 HR0.out.lt); have HS1 := Lib.hid hs1; have HB1 := Lib.hid (below_two HB0.out hb1)
  have hp1 : p < w1.heap.size := hs1.lt
  clear hs1 hb1 HR0 HRB HB0 hz0
  have HRB1 := Lib.hid (rdB_later hr17 HB1.out)
  clear hr17
  go_wp2_with fail
  refine (drawSendTimesL_any _ _ _ xs _ HRB1.out hn).mono ?_
  rintro e w2 ⟨v, k, aa, rfl, lo2, an2, b2⟩
  have hs2 := HS1.out.below b2
  have hb3 := (Below.refl w2.heap.size w2).alloc (Nat.le_refl _) (.cells #[.int .i64 v.id, .slice v.no v.n.length v.nc, .slice v.mo v.cs.length v.mc, .slice v.eo v.e.length v.ec] 28)
  have hr2 := HR1.out.below b2 HR1.out.lt
  have hz2 := Nat.lt_of_lt_of_le hp1 b2.size
  have HZ4 := Lib.hid (show DzSt w (w2.alloc (.cells #[.int .i64 v.id, .slice v.no v.n.length v.nc, .slice v.mo v.cs.length v.mc, .slice v.eo v.e.length v.ec] 28)) p w2.heap.size v from ⟨hs2.below hb3, hlo, hr2.below hb3 hr2.lt, MvAt.new w2, by omega, hr2.lt, (lo2.more hp1).below hb3, an2, below_two (below_two HB1.out b2) hb3⟩)
  clear lo2 an2 hs2 b2 hb3 hr2 HR1 HS1 HB1 hz2 hlo hp1 HRB1
  unfold mvVal
  go_upto_region 3 with fail
  generalize w2.alloc (.cells #[.int .i64 v.id, .slice v.no v.n.length v.nc, .slice v.mo v.cs.length v.mc, .slice v.eo v.e.length v.ec] 28) = w4 at HZ4 ⊢
  generalize w2.heap.size = B at HZ4 ⊢
  obtain ⟨b0, b1, b2, b3⟩ := HZ4.out.box.all
  have hnl : v.n.length ≤ 5 := HZ4.out.a.nl
  rcases Nat.eq_zero_or_pos v.n.length with h0 | h0d
  · obtain ⟨id, n, no, nc, cs, mo, mc, es, eo, ec⟩ := v
    have hn0 : n = [] := List.length_eq_zero_iff.1 h0
    subst hn0
    clear h0 hnl
    simp only [List.length_nil] at b0 b1 b2 b3
    go_upto_region 5 with fail
    have HZd := Lib.hid (HZ4.out.call (Below.drew (Below.refl _ _)))
    have hq := HZd.out.box.all
    simp only [List.length_nil] at hq
    clear HZ4 b0 b1 b2 b3
    refine wp_region_held_drew (S := fun w' => w'.cell? ⟨B, 0, none⟩ = some (.int .i64 id) ∧ w'.cell? ⟨B, 1, none⟩ = some (.slice no 0 nc) ∧ w'.cell? ⟨B, 2, none⟩ = some (.slice mo cs.length mc) ∧ w'.cell? ⟨B, 3, none⟩ = some (.slice eo es.length ec)) (by kernel_rfl) (hq) (fun hHeld => ?_)
    generalize w4.drew = wd at HZd hq hHeld ⊢
    refine wpAnyH_take (i := 0) (v := ?_) rfl (by kernel_rfl) (by kernel_rfl) (by kernel_rfl) (fun _ _ _ h => h) (Or.inl ⟨by rfl, ?_⟩) (by assumption) ?_
    rotate_left
    · (intro w hSw; (try dsimp only at hSw); go_simp; (try with_reducible rfl))
    try simp only [pa, pb, pc, Act.put, pe, pf, pg]
    refine wpAnyH_take (i := 1) (v := ?_) rfl (by kernel_rfl) (by kernel_rfl) (by kernel_rfl) (fun _ _ _ h => h) (Or.inl ⟨by rfl, ?_⟩) (by assumption) ?_
    rotate_left
    · (intro w hSw; (try dsimp only at hSw); go_simp; (try with_reducible rfl))
    try simp only [pa, pb, pc, Act.put, pe, pf, pg]
    refine wpAnyH_take (i := 2) (v := ?_) rfl (by kernel_rfl) (by kernel_rfl) (by kernel_rfl) (fun _ _ _ h => h) (Or.inl ⟨by rfl, ?_⟩) (by assumption) ?_
    rotate_left
    · (intro w hSw; (try dsimp only at hSw); go_simp; (try with_reducible rfl))
    try simp only [pa, pb, pc, Act.put, pe, pf, pg]
    refine wpAnyH_take (i := 3) (v := ?_) rfl (by kernel_rfl) (by kernel_rfl) (by kernel_rfl) (fun _ _ _ h => h) (Or.inl ⟨by rfl, ?_⟩) (by assumption) ?_
    rotate_left
    · (intro w hSw; (try dsimp only at hSw); go_simp; (try with_reducible rfl))
    try simp only [pa, pb, pc, Act.put, pe, pf, pg]
    refine wpAnyH_ready (rs := [4]) (by kernel_rfl) (by simp) (AllReadyH.cons rfl (fun K hK => ?_) AllReadyH.nil)
    go_simp
    refine (l05DrawNode_any _ _ HZd.out.s).mono ?_
    rintro e w7 ⟨y, rfl, hs, g⟩
    have HZ7 := Lib.hid (HZd.out.next hs g)
    clear hs g hq HZd
    have hq := HZ7.out.box.all
    simp only [List.length_nil] at hq
    go_wp2_with fail
    refine hK.out _ _ ?_ (fun hHeld => ?_)
    · exact hq
    clear hK K
    try simp only [pa, pb, pc, Act.put, pe, pf, pg]
    have hr0 := HZ7.out.res.all
    dsimp only [Mv.zero, List.length_nil] at hr0
    obtain ⟨r0, r1, r2, r3⟩ := hr0
    have f0 := HZ7.out.res.f 0; have f1 := HZ7.out.res.f 1; have f2 := HZ7.out.res.f 2; have f3 := HZ7.out.res.f 3
    have HF := Lib.hid HZ7.out.finL
    have hqf := HF.out.2.2.2.2.all; simp only [List.length_nil] at hqf
    refine wpAnyH_ready (rs := [5]) (by kernel_rfl) (by simp) (AllReadyH.cons rfl (fun K hK => ?_) AllReadyH.nil)
    go_simp
    refine hK.out _ _ ?_ (fun hHeld => ?_)
    · exact hqf
    clear hK r0 r1 r2 r3 f0 f1 f2 f3 hqf HZ7 hq
    try simp only [pa, pb, pc, Act.put, pe, pf, pg]
    refine wpAnyH_take (i := 6) (v := ?_) rfl (by kernel_rfl) (by kernel_rfl) (by kernel_rfl) (fun _ _ _ h => h) (Or.inl ⟨by rfl, ?_⟩) (by assumption) ?_
    rotate_left
    · (intro w hSw; (try dsimp only at hSw); go_simp; (try with_reducible rfl))
    try simp only [pa, pb, pc, Act.put, pe, pf, pg]
    refine wpAnyH_take (i := 7) (v := ?_) rfl (by kernel_rfl) (by kernel_rfl) (by kernel_rfl) (fun _ _ _ h => h) (Or.inl ⟨by rfl, ?_⟩) (by assumption) ?_
    rotate_left
    · (intro w hSw; (try dsimp only at hSw); go_simp; (try with_reducible rfl))
    try simp only [pa, pb, pc, Act.put, pe, pf, pg]
    refine wpAnyH_take (i := 8) (v := ?_) rfl (by kernel_rfl) (by kernel_rfl) (by kernel_rfl) (fun _ _ _ h => h) (Or.inl ⟨by rfl, ?_⟩) (by assumption) ?_
    rotate_left
    · (intro w hSw; (try dsimp only at hSw); go_simp; (try with_reducible rfl))
    try simp only [pa, pb, pc, Act.put, pe, pf, pg]
    refine wpAnyH_done (by kernel_rfl) ?_ _
    go_wp2_with fail
    change bodyPost _ _ _ _ _ (setMv w7 w.heap.size ⟨id, [], no, nc, cs, mo, mc, es, eo, ec⟩)
    clear hHeld
    generalize setMv w7 w.heap.size ⟨id, [], no, nc, cs, mo, mc, es, eo, ec⟩ = wz at HF ⊢
    obtain ⟨h1, h2, h3, h4, -⟩ := HF.out
    obtain ⟨e0, e1, e2, e3⟩ := h1.all
    exact bodyPost_ret (v := .tuple #[mvVal ⟨id, [], no, nc, cs, mo, mc, es, eo, ec⟩, .int .i64 k, .int .i64 aa, .int .i64 y]) (by simp [mvVal, results, Tryz.results54, go_sem, e0, e1, e2, e3]) rfl ⟨⟨id, [], no, nc, cs, mo, mc, es, eo, ec⟩, k, aa, y, rfl, h2, h3, h4⟩
  · go_wp2_with fail
    refine (next_any _ _ _ HZ4.out.s (by omega)).mono ?_
    rintro e w5 ⟨rr, rfl, rr0, -, -, hs, g⟩
    have HZ5 := Lib.hid (HZ4.out.next hs g)
    clear hs g HZ4 b0 b1 b2 b3
    by_cases h1 : 0 < rr
    · obtain ⟨id, n, no, nc, cs, mo, mc, es, eo, ec⟩ := v
      obtain ⟨g, off, e0, -⟩ := HZ5.out.t.rn.here h0d
      dsimp only at e0 h0d hnl
      subst e0
      go_upto_region 4 with fail
      have HZd := Lib.hid (HZ5.out.call (Below.drew (Below.refl w5.heap.size w5)))
      have hq := HZd.out.box.all
      dsimp only at hq
      clear HZ5
      refine wp_region_held_drew (S := fun w' => w'.cell? ⟨B, 0, none⟩ = some (.int .i64 id) ∧ w'.cell? ⟨B, 1, none⟩ = some (.slice (some ⟨g, off, none⟩) n.length nc) ∧ w'.cell? ⟨B, 2, none⟩ = some (.slice mo cs.length mc) ∧ w'.cell? ⟨B, 3, none⟩ = some (.slice eo es.length ec)) (by kernel_rfl) (hq) (fun hHeld => ?_)
      generalize w5.drew = wd at HZd hq hHeld ⊢
      refine wpAnyH_take (i := 0) (v := ?_) rfl (by kernel_rfl) (by kernel_rfl) (by kernel_rfl) (fun _ _ _ h => h) (Or.inl ⟨by rfl, ?_⟩) (by assumption) ?_
      rotate_left
      · (intro w hSw; (try dsimp only at hSw); go_simp; (try with_reducible rfl))
      try simp only [pa, pb, pc, Act.put, pe, pf, pg]
      refine wpAnyH_take (i := 1) (v := ?_) rfl (by kernel_rfl) (by kernel_rfl) (by kernel_rfl) (fun _ _ _ h => h) (Or.inl ⟨by rfl, ?_⟩) (by assumption) ?_
      rotate_left
      · (intro w hSw; (try dsimp only at hSw); go_simp; (try with_reducible rfl))
      try simp only [pa, pb, pc, Act.put, pe, pf, pg]
      refine wpAnyH_take (i := 2) (v := ?_) rfl (by kernel_rfl) (by kernel_rfl) (by kernel_rfl) (fun _ _ _ h => h) (Or.inl ⟨by rfl, ?_⟩) (by assumption) ?_
      rotate_left
      · (intro w hSw; (try dsimp only at hSw); go_simp; (try with_reducible rfl))
      try simp only [pa, pb, pc, Act.put, pe, pf, pg]
      refine wpAnyH_take (i := 3) (v := ?_) rfl (by kernel_rfl) (by kernel_rfl) (by kernel_rfl) (fun _ _ _ h => h) (Or.inl ⟨by rfl, ?_⟩) (by assumption) ?_
      rotate_left
      · (intro w hSw; (try dsimp only at hSw); go_simp; (try with_reducible rfl))
      try simp only [pa, pb, pc, Act.put, pe, pf, pg]
      refine wpAnyH_take (i := 4) (v := ?_) rfl (by kernel_rfl) (by kernel_rfl) (by kernel_rfl) (fun _ _ _ h => h) (Or.inl ⟨by rfl, ?_⟩) (by assumption) ?_
      rotate_left
      · (intro w hSw; (try dsimp only at hSw); go_simp; (try with_reducible rfl))
      try simp only [pa, pb, pc, Act.put, pe, pf, pg]
      refine wpAnyH_take (i := 5) (v := ?_) rfl (by kernel_rfl) (by kernel_rfl) (by kernel_rfl) (fun _ _ _ h => h) (Or.inl ⟨by rfl, ?_⟩) (by assumption) ?_
      rotate_left
      · (intro w hSw; (try dsimp only at hSw); go_simp; (try with_reducible rfl))
      try simp only [pa, pb, pc, Act.put, pe, pf, pg]
      refine wpAnyH_take (i := 6) (v := ?_) rfl (by kernel_rfl) (by kernel_rfl) (by kernel_rfl) (fun _ _ _ h => h) (Or.inl ⟨by rfl, ?_⟩) (by assumption) ?_
      rotate_left
      · (intro w hSw; (try dsimp only at hSw); go_simp; (try with_reducible rfl))
      try simp only [pa, pb, pc, Act.put, pe, pf, pg]
      refine wpAnyH_take (i := 7) (v := ?_) rfl (by kernel_rfl) (by kernel_rfl) (by kernel_rfl) (fun _ _ _ h => h) (Or.inl ⟨by rfl, ?_⟩) (by assumption) ?_
      rotate_left
      · (intro w hSw; (try dsimp only at hSw); go_simp; (try with_reducible rfl))
      try simp only [pa, pb, pc, Act.put, pe, pf, pg]
      refine wpAnyH_take (i := 8) (v := ?_) rfl (by kernel_rfl) (by kernel_rfl) (by kernel_rfl) (fun _ _ _ h => h) (Or.inl ⟨by rfl, ?_⟩) (by assumption) ?_
      rotate_left
      · (intro w hSw; (try dsimp only at hSw); go_simp; (try with_reducible rfl))
      try simp only [pa, pb, pc, Act.put, pe, pf, pg]
      refine wpAnyH_ready (rs := [9]) (by kernel_rfl) (by simp) (AllReadyH.cons rfl (fun K hK => ?_) AllReadyH.nil)
      go_simp
      refine (next_any _ _ _ HZd.out.s (by omega)).mono ?_
      rintro e w6 ⟨a, rfl, a0, ax, az, hs, g⟩
      have HZ6 := Lib.hid (HZd.out.next hs g)
      clear hs g hq HZd
      have hq := HZ6.out.box.all
      dsimp only at hq
      go_wp2_with fail
      refine hK.out _ _ ?_ (fun hHeld => ?_)
      · exact hq
      clear hK K
      try simp only [pa, pb, pc, Act.put, pe, pf, pg]
      obtain ⟨ai, hai⟩ : ∃ i : Nat, a = i := ⟨a.toNat, by omega⟩
      subst hai
      have hlt : ai < n.length := by
        by_cases h2 : 1 < (n.length : Int)
        · have := ax h2; omega
        · have := az (by omega); omega
      clear ax az
      obtain ⟨g', off', e0, hx⟩ := HZ6.out.t.rn.here h0d
      dsimp only at e0 hx
      cases e0
      have hx0 := (hx ai hlt).c0
      obtain ⟨y, hyy⟩ : ∃ y, (ndOf n ai).id = y := ⟨_, rfl⟩
      rw [hyy] at hx0
      clear hx
      refine wpAnyH_take (i := 10) (v := ?_) rfl (by kernel_rfl) (by kernel_rfl) (by kernel_rfl) (fun _ _ _ h => h) (Or.inl ⟨by rfl, ?_⟩) (by assumption) ?_
      rotate_left
      · (intro w hSw; (try dsimp only at hSw); go_simp; (try with_reducible rfl))
      try simp only [pa, pb, pc, Act.put, pe, pf, pg]
      refine wpAnyH_take (i := 11) (v := ?_) rfl (by kernel_rfl) (by kernel_rfl) (by kernel_rfl) (fun _ _ _ h => h) (Or.inl ⟨by rfl, ?_⟩) (by assumption) ?_
      rotate_left
      · (intro w hSw; (try dsimp only at hSw); go_simp; (try with_reducible rfl))
      try simp only [pa, pb, pc, Act.put, pe, pf, pg]
      refine wpAnyH_ready (rs := [12, 13]) (by kernel_rfl) (by simp) (AllReadyH.cons rfl (fun K hK => ?_) (AllReadyH.cons rfl (fun K hK => ?_) AllReadyH.nil))
      · go_simp
        clear hx0
        refine hK.out _ _ ?_ (fun hHeld => ?_)
        · exact hq
        clear hK K
        try simp only [pa, pb, pc, Act.put, pe, pf, pg]
        have hr0 := HZ6.out.res.all
        dsimp only [Mv.zero, List.length_nil] at hr0
        obtain ⟨r0, r1, r2, r3⟩ := hr0
        have f0 := HZ6.out.res.f 0; have f1 := HZ6.out.res.f 1; have f2 := HZ6.out.res.f 2; have f3 := HZ6.out.res.f 3
        have HF := Lib.hid HZ6.out.finL
        have hqf := HF.out.2.2.2.2.all; dsimp only at hqf
        refine wpAnyH_ready (rs := [13]) (by kernel_rfl) (by simp) (AllReadyH.cons rfl (fun K hK => ?_) AllReadyH.nil)
        go_simp
        refine hK.out _ _ ?_ (fun hHeld => ?_)
        · exact hqf
        clear hK K r0 r1 r2 r3 f0 f1 f2 f3 hqf HZ6 hq
        try simp only [pa, pb, pc, Act.put, pe, pf, pg]
        refine wpAnyH_take (i := 14) (v := ?_) rfl (by kernel_rfl) (by kernel_rfl) (by kernel_rfl) (fun _ _ _ h => h) (Or.inl ⟨by rfl, ?_⟩) (by assumption) ?_
        rotate_left
        · (intro w hSw; (try dsimp only at hSw); go_simp; (try with_reducible rfl))
        try simp only [pa, pb, pc, Act.put, pe, pf, pg]
        refine wpAnyH_take (i := 15) (v := ?_) rfl (by kernel_rfl) (by kernel_rfl) (by kernel_rfl) (fun _ _ _ h => h) (Or.inl ⟨by rfl, ?_⟩) (by assumption) ?_
        rotate_left
        · (intro w hSw; (try dsimp only at hSw); go_simp; (try with_reducible rfl))
        try simp only [pa, pb, pc, Act.put, pe, pf, pg]
        refine wpAnyH_take (i := 16) (v := ?_) rfl (by kernel_rfl) (by kernel_rfl) (by kernel_rfl) (fun _ _ _ h => h) (Or.inl ⟨by rfl, ?_⟩) (by assumption) ?_
        rotate_left
        · (intro w hSw; (try dsimp only at hSw); go_simp; (try with_reducible rfl))
        try simp only [pa, pb, pc, Act.put, pe, pf, pg]
        refine wpAnyH_done (by kernel_rfl) ?_ _
        go_wp2_with fail
        change bodyPost _ _ _ _ _ (setMv w6 w.heap.size ⟨id, n, some ⟨g, off, none⟩, nc, cs, mo, mc, es, eo, ec⟩)
        clear hHeld
        generalize setMv w6 w.heap.size ⟨id, n, some ⟨g, off, none⟩, nc, cs, mo, mc, es, eo, ec⟩ = wz at HF ⊢
        obtain ⟨h1, h2, h3, h4, -⟩ := HF.out
        obtain ⟨e0, e1, e2, e3⟩ := h1.all
        exact bodyPost_ret (v := .tuple #[mvVal ⟨id, n, some ⟨g, off, none⟩, nc, cs, mo, mc, es, eo, ec⟩, .int .i64 k, .int .i64 aa, .int .i64 y]) (by simp [mvVal, results, Tryz.results54, go_sem, e0, e1, e2, e3]) rfl ⟨⟨id, n, some ⟨g, off, none⟩, nc, cs, mo, mc, es, eo, ec⟩, k, aa, y, rfl, h2, h3, h4⟩
      · have hr0 := HZ6.out.res.all
        dsimp only [Mv.zero, List.length_nil] at hr0
        obtain ⟨r0, r1, r2, r3⟩ := hr0
        have f0 := HZ6.out.res.f 0; have f1 := HZ6.out.res.f 1; have f2 := HZ6.out.res.f 2; have f3 := HZ6.out.res.f 3
        have HF := Lib.hid HZ6.out.finL
        have hqf := HF.out.2.2.2.2.all; dsimp only at hqf
        go_simp
        refine hK.out _ (setMv w6 w.heap.size ⟨id, n, some ⟨g, off, none⟩, nc, cs, mo, mc, es, eo, ec⟩) ?_ (fun hHeld => ?_)
        · exact hqf
        obtain ⟨g', off', e0', hy⟩ := HF.out.2.1.rn.here h0d
        dsimp only at e0' hy
        cases e0'
        have hy0 := (hy ai hlt).c0
        rw [hyy] at hy0
        clear hy hx0
        clear hK K r0 r1 r2 r3 f0 f1 f2 f3 HZ6 hq
        generalize (setMv w6 w.heap.size ⟨id, n, some ⟨g, off, none⟩, nc, cs, mo, mc, es, eo, ec⟩) = wz at HF hqf hy0 hHeld ⊢
        try simp only [pa, pb, pc, Act.put, pe, pf, pg]
        refine wpAnyH_take (i := 14) (v := ?_) rfl (by kernel_rfl) (by kernel_rfl) (by kernel_rfl) (fun _ _ _ h => h) (Or.inl ⟨by rfl, ?_⟩) (by assumption) ?_
        rotate_left
        · (intro w hSw; (try dsimp only at hSw); go_simp; (try with_reducible rfl))
        try simp only [pa, pb, pc, Act.put, pe, pf, pg]
        refine wpAnyH_take (i := 15) (v := ?_) rfl (by kernel_rfl) (by kernel_rfl) (by kernel_rfl) (fun _ _ _ h => h) (Or.inl ⟨by rfl, ?_⟩) (by assumption) ?_
        rotate_left
        · (intro w hSw; (try dsimp only at hSw); go_simp; (try with_reducible rfl))
        try simp only [pa, pb, pc, Act.put, pe, pf, pg]
        refine wpAnyH_ready (rs := [12]) (by kernel_rfl) (by simp) (AllReadyH.cons rfl (fun K hK => ?_) AllReadyH.nil)
        go_simp
        clear hy0
        refine hK.out _ _ ?_ (fun hHeld => ?_)
        · exact hqf
        clear hK K
        try simp only [pa, pb, pc, Act.put, pe, pf, pg]
        refine wpAnyH_take (i := 16) (v := ?_) rfl (by kernel_rfl) (by kernel_rfl) (by kernel_rfl) (fun _ _ _ h => h) (Or.inl ⟨by rfl, ?_⟩) (by assumption) ?_
        rotate_left
        · (intro w hSw; (try dsimp only at hSw); go_simp; (try with_reducible rfl))
        try simp only [pa, pb, pc, Act.put, pe, pf, pg]
        refine wpAnyH_done (by kernel_rfl) ?_ _
        go_wp2_with fail
        clear hHeld hqf
        obtain ⟨h1, h2, h3, h4, -⟩ := HF.out
        obtain ⟨e0, e1, e2, e3⟩ := h1.all
        dsimp only at e0 e1 e2 e3
        exact bodyPost_ret (v := .tuple #[mvVal ⟨id, n, some ⟨g, off, none⟩, nc, cs, mo, mc, es, eo, ec⟩, .int .i64 k, .int .i64 aa, .int .i64 y]) (by simp [mvVal, results, Tryz.results54, go_sem, e0, e1, e2, e3]) rfl ⟨⟨id, n, some ⟨g, off, none⟩, nc, cs, mo, mc, es, eo, ec⟩, k, aa, y, rfl, h2, h3, h4⟩
    · have h1d : ¬ 0 < rr := h1
      go_upto_region 5 with fail
      have HZd := Lib.hid (HZ5.out.call (Below.drew (Below.refl _ _)))
      have hq := HZd.out.box.all
      clear HZ5
      refine wp_region_held_drew (S := fun w' => w'.cell? ⟨B, 0, none⟩ = some (.int .i64 v.id) ∧ w'.cell? ⟨B, 1, none⟩ = some (.slice v.no v.n.length v.nc) ∧ w'.cell? ⟨B, 2, none⟩ = some (.slice v.mo v.cs.length v.mc) ∧ w'.cell? ⟨B, 3, none⟩ = some (.slice v.eo v.e.length v.ec)) (by kernel_rfl) (hq) (fun hHeld => ?_)
      generalize w5.drew = wd at HZd hq hHeld ⊢
      refine wpAnyH_take (i := 0) (v := ?_) rfl (by kernel_rfl) (by kernel_rfl) (by kernel_rfl) (fun _ _ _ h => h) (Or.inl ⟨by rfl, ?_⟩) (by assumption) ?_
      rotate_left
      · (intro w hSw; (try dsimp only at hSw); go_simp; (try with_reducible rfl))
      try simp only [pa, pb, pc, Act.put, pe, pf, pg]
      refine wpAnyH_take (i := 1) (v := ?_) rfl (by kernel_rfl) (by kernel_rfl) (by kernel_rfl) (fun _ _ _ h => h) (Or.inl ⟨by rfl, ?_⟩) (by assumption) ?_
      rotate_left
      · (intro w hSw; (try dsimp only at hSw); go_simp; (try with_reducible rfl))
      try simp only [pa, pb, pc, Act.put, pe, pf, pg]
      refine wpAnyH_take (i := 2) (v := ?_) rfl (by kernel_rfl) (by kernel_rfl) (by kernel_rfl) (fun _ _ _ h => h) (Or.inl ⟨by rfl, ?_⟩) (by assumption) ?_
      rotate_left
      · (intro w hSw; (try dsimp only at hSw); go_simp; (try with_reducible rfl))
      try simp only [pa, pb, pc, Act.put, pe, pf, pg]
      refine wpAnyH_take (i := 3) (v := ?_) rfl (by kernel_rfl) (by kernel_rfl) (by kernel_rfl) (fun _ _ _ h => h) (Or.inl ⟨by rfl, ?_⟩) (by assumption) ?_
      rotate_left
      · (intro w hSw; (try dsimp only at hSw); go_simp; (try with_reducible rfl))
      try simp only [pa, pb, pc, Act.put, pe, pf, pg]
      refine wpAnyH_ready (rs := [4]) (by kernel_rfl) (by simp) (AllReadyH.cons rfl (fun K hK => ?_) AllReadyH.nil)
      go_simp
      refine (l05DrawNode_any _ _ HZd.out.s).mono ?_
      rintro e w7 ⟨y, rfl, hs, g⟩
      have HZ7 := Lib.hid (HZd.out.next hs g)
      clear hs g hq HZd
      have hq := HZ7.out.box.all
      go_wp2_with fail
      refine hK.out _ _ ?_ (fun hHeld => ?_)
      · exact hq
      clear hK K
      try simp only [pa, pb, pc, Act.put, pe, pf, pg]
      have hr0 := HZ7.out.res.all
      dsimp only [Mv.zero, List.length_nil] at hr0
      obtain ⟨r0, r1, r2, r3⟩ := hr0
      have f0 := HZ7.out.res.f 0; have f1 := HZ7.out.res.f 1; have f2 := HZ7.out.res.f 2; have f3 := HZ7.out.res.f 3
      have HF := Lib.hid HZ7.out.finL
      have hqf := HF.out.2.2.2.2.all
      refine wpAnyH_ready (rs := [5]) (by kernel_rfl) (by simp) (AllReadyH.cons rfl (fun K hK => ?_) AllReadyH.nil)
      go_simp
      refine hK.out _ _ ?_ (fun hHeld => ?_)
      · exact hqf
      clear hK r0 r1 r2 r3 f0 f1 f2 f3 hqf HZ7 hq
      try simp only [pa, pb, pc, Act.put, pe, pf, pg]
      refine wpAnyH_take (i := 6) (v := ?_) rfl (by kernel_rfl) (by kernel_rfl) (by kernel_rfl) (fun _ _ _ h => h) (Or.inl ⟨by rfl, ?_⟩) (by assumption) ?_
      rotate_left
      · (intro w hSw; (try dsimp only at hSw); go_simp; (try with_reducible rfl))
      try simp only [pa, pb, pc, Act.put, pe, pf, pg]
      refine wpAnyH_take (i := 7) (v := ?_) rfl (by kernel_rfl) (by kernel_rfl) (by kernel_rfl) (fun _ _ _ h => h) (Or.inl ⟨by rfl, ?_⟩) (by assumption) ?_
      rotate_left
      · (intro w hSw; (try dsimp only at hSw); go_simp; (try with_reducible rfl))
      try simp only [pa, pb, pc, Act.put, pe, pf, pg]
      refine wpAnyH_take (i := 8) (v := ?_) rfl (by kernel_rfl) (by kernel_rfl) (by kernel_rfl) (fun _ _ _ h => h) (Or.inl ⟨by rfl, ?_⟩) (by assumption) ?_
      rotate_left
      · (intro w hSw; (try dsimp only at hSw); go_simp; (try with_reducible rfl))
      try simp only [pa, pb, pc, Act.put, pe, pf, pg]
      refine wpAnyH_done (by kernel_rfl) ?_ _
      go_wp2_with fail
      change bodyPost _ _ _ _ _ (setMv w7 w.heap.size v)
      clear hHeld
      generalize setMv w7 w.heap.size v = wz at HF ⊢
      obtain ⟨h1, h2, h3, h4, -⟩ := HF.out
      obtain ⟨e0, e1, e2, e3⟩ := h1.all
      exact bodyPost_ret (v := .tuple #[mvVal v, .int .i64 k, .int .i64 aa, .int .i64 y]) (by simp [mvVal, results, Tryz.results54, go_sem, e0, e1, e2, e3]) rfl ⟨v, k, aa, y, rfl, h2, h3, h4⟩
set_option linter.unusedSimpArgs false in
set_option maxRecDepth 100000 in
set_option maxHeartbeats 4000000 in
theorem drawGapsOf_any (ao : Option Addr) (n cap : Nat) (xs : List Int) (w : World) (hr : RdB w w.heap.size ao n xs) (hn : n ≤ 1048576) :
    Calls Tryz.prog 35 #[.slice ao n cap] w (DrawnVL w) := by
  have hb0 : Below w.heap.size w (w.alloc (.cells #[.int .i64 0, .slice none 0 0, .slice none 0 0, .slice none 0 0] 28)) := (Below.refl _ _).alloc (Nat.le_refl _) _
  have HR0 := Lib.hid (show MvAt 28 (w.alloc (.cells #[.int .i64 0, .slice none 0 0, .slice none 0 0, .slice none 0 0] 28)) w.heap.size Mv.zero from MvAt.new (v := Mv.zero) w)
  have HRB := Lib.hid (rdB_later hr hb0); have HB0 := Lib.hid hb0
  clear hr hb0
  go_enter Tryz.func35, Tryz.ntmps35
  go_upto_region 1 with fail
  generalize w.alloc (.cells #[.int .i64 0, .slice none 0 0, .slice none 0 0, .slice none 0 0] 28) = w0 at HR0 HRB HB0 ⊢
  go_wp2_with fail
  refine (drawSendTimesL_any _ _ _ xs _ HRB.out hn).mono ?_
  rintro e w1 ⟨v, k, d, rfl, lo, an, b1⟩
  have HM := Lib.hid (HR0.out.below b1 HR0.out.lt)
  have hr0 := HM.out.all
  dsimp only [Mv.zero, List.length_nil] at hr0
  obtain ⟨r0, r1, r2, r3⟩ := hr0
  have f0 := HM.out.f 0; have f1 := HM.out.f 1; have f2 := HM.out.f 2; have f3 := HM.out.f 3
  have HL := Lib.hid ((lo.far (grown_setMv w1 w.heap.size v) HR0.out.lt).more (Nat.le_of_lt HR0.out.lt))
  have HB := Lib.hid ((below_two HB0.out b1).trans (below_setMv (w := w1) (Nat.le_refl w.heap.size) v))
  have HP := Lib.hid (HM.out.put v)
  have HA := Lib.hid an
  clear lo an b1 HR0 HRB HB0
  unfold mvVal
  go_wp2_with fail
  change bodyPost _ _ _ _ _ (setMv w1 w.heap.size v)
  clear r0 r1 r2 r3 f0 f1 f2 f3 HM
  generalize setMv w1 w.heap.size v = wz at HL HB HP ⊢
  obtain ⟨e0, e1, e2, e3⟩ := HP.out.all
  exact bodyPost_ret (v := .tuple #[mvVal v, .int .i64 k, .int .i64 d]) (by simp [mvVal, results, Tryz.results35, go_sem, e0, e1, e2, e3]) rfl ⟨v, k, d, rfl, HL.out, HA.out, HB.out⟩
set_option linter.unusedSimpArgs false in
set_option maxRecDepth 100000 in
set_option maxHeartbeats 4000000 in
theorem drawPayloadOf_any (ao : Option Addr) (n cap : Nat) (xs : List Int) (w : World) (hr : RdB w w.heap.size ao n xs) (hn : n ≤ 1048576) :
    Calls Tryz.prog 49 #[.slice ao n cap] w (DrawnVL w) := by
  have hb0 : Below w.heap.size w (w.alloc (.cells #[.int .i64 0, .slice none 0 0, .slice none 0 0, .slice none 0 0] 28)) := (Below.refl _ _).alloc (Nat.le_refl _) _
  have HR0 := Lib.hid (show MvAt 28 (w.alloc (.cells #[.int .i64 0, .slice none 0 0, .slice none 0 0, .slice none 0 0] 28)) w.heap.size Mv.zero from MvAt.new (v := Mv.zero) w)
  have HRB := Lib.hid (rdB_later hr hb0); have HB0 := Lib.hid hb0
  clear hr hb0
  go_enter Tryz.func49, Tryz.ntmps49
  go_upto_region 1 with fail
  generalize w.alloc (.cells #[.int .i64 0, .slice none 0 0, .slice none 0 0, .slice none 0 0] 28) = w0 at HR0 HRB HB0 ⊢
  go_wp2_with fail
  refine (drawSendTimesL_any _ _ _ xs _ HRB.out hn).mono ?_
  rintro e w1 ⟨v, k, d, rfl, lo, an, b1⟩
  have HM := Lib.hid (HR0.out.below b1 HR0.out.lt)
  have hr0 := HM.out.all
  dsimp only [Mv.zero, List.length_nil] at hr0
  obtain ⟨r0, r1, r2, r3⟩ := hr0
  have f0 := HM.out.f 0; have f1 := HM.out.f 1; have f2 := HM.out.f 2; have f3 := HM.out.f 3
  have HL := Lib.hid ((lo.far (grown_setMv w1 w.heap.size v) HR0.out.lt).more (Nat.le_of_lt HR0.out.lt))
  have HB := Lib.hid ((below_two HB0.out b1).trans (below_setMv (w := w1) (Nat.le_refl w.heap.size) v))
  have HP := Lib.hid (HM.out.put v)
  have HA := Lib.hid an
  clear lo an b1 HR0 HRB HB0
  unfold mvVal
  go_wp2_with fail
  change bodyPost _ _ _ _ _ (setMv w1 w.heap.size v)
  clear r0 r1 r2 r3 f0 f1 f2 f3 HM
  generalize setMv w1 w.heap.size v = wz at HL HB HP ⊢
  obtain ⟨e0, e1, e2, e3⟩ := HP.out.all
  exact bodyPost_ret (v := .tuple #[mvVal v, .int .i64 k, .int .i64 d]) (by simp [mvVal, results, Tryz.results49, go_sem, e0, e1, e2, e3]) rfl ⟨v, k, d, rfl, HL.out, HA.out, HB.out⟩
def DrawnV1L (w : World) (e : Ending) (w' : World) : Prop := ∃ (v : Mv) (k : Int), e = .returned (.tuple #[mvVal v, .int .i64 k]) ∧ LowMe w' w.heap.size v ∧ AnyMv v ∧ Below w.heap.size w w'
set_option linter.unusedSimpArgs false in
set_option maxRecDepth 100000 in
set_option maxHeartbeats 4000000 in
theorem drawCycleTimeL_any (ao : Option Addr) (n cap : Nat) (xs : List Int) (w : World) (hr : RdB w w.heap.size ao n xs) (hn : n ≤ 1048576) :
    Calls Tryz.prog 95 #[.slice ao n cap] w (DrawnV1L w) := by
  have hb0 : Below w.heap.size w (w.alloc (.cells #[.int .i64 0, .slice none 0 0, .slice none 0 0, .slice none 0 0] 28)) := (Below.refl _ _).alloc (Nat.le_refl _) _
  have HR0 := Lib.hid (show MvAt 28 (w.alloc (.cells #[.int .i64 0, .slice none 0 0, .slice none 0 0, .slice none 0 0] 28)) w.heap.size Mv.zero from MvAt.new (v := Mv.zero) w)
  have HRB := Lib.hid (rdB_later hr hb0); have HB0 := Lib.hid hb0
  have hz0 : (w.alloc (.cells #[.int .i64 0, .slice none 0 0, .slice none 0 0, .slice none 0 0] 28)).heap.size = w.heap.size + 1 := World.size_alloc ..
  clear hr hb0
  go_enter Tryz.func95, Tryz.ntmps95
  go_upto_region 1 with fail
  generalize w.alloc (.cells #[.int .i64 0, .slice none 0 0, .slice none 0 0, .slice none 0 0] 28) = w0 at HR0 HRB HB0 hz0 ⊢
  go_wp2_with fail
  refine (from_any _ _ _ xs _ HRB.out hn).mono ?_
  rintro e w1 ⟨p, rfl, hlo, hs1, hb1⟩
  rw [hz0] at hlo
  have HR1 := Lib.hid (HR0.out.below hb1 HR0.out.lt); have HS1 := Lib.hid hs1; have HB1 := Lib.hid (below_two HB0.out hb1)
  have hp1 : p < w1.heap.size := hs1.lt
  clear hs1 hb1 HR0 HRB HB0 hz0
  go_wp2_with fail
  refine (l13DrawAny_any p _ HS1.out).mono ?_
  rintro e w2 ⟨v, rfl, lo2, an2, hs2, g2⟩
  have hb3 := (Below.refl w2.heap.size w2).alloc (Nat.le_refl _) (.cells #[.int .i64 v.id, .slice v.no v.n.length v.nc, .slice v.mo v.cs.length v.mc, .slice v.eo v.e.length v.ec] 28)
  have hr2 := HR1.out.grown g2 (fun e => by injection e with e; omega)
  have hz2 := Nat.lt_of_lt_of_le hp1 g2.size
  have HZ := Lib.hid (show DzSt w (w2.alloc (.cells #[.int .i64 v.id, .slice v.no v.n.length v.nc, .slice v.mo v.cs.length v.mc, .slice v.eo v.e.length v.ec] 28)) p w2.heap.size v from ⟨hs2.below hb3, hlo, hr2.below hb3 hr2.lt, MvAt.new w2, by omega, hr2.lt, (lo2.more hp1).below hb3, an2, (HB1.out.grown g2 HB1.out.size (fun k hk => by cases hk; omega)).alloc (Nat.le_trans HB1.out.size g2.size) _⟩)
  clear lo2 an2 hs2 g2 hb3 hr2 HR1 HS1 HB1 hz2 hlo hp1
  unfold mvVal
  go_upto_region 3 with fail
  generalize w2.alloc (.cells #[.int .i64 v.id, .slice v.no v.n.length v.nc, .slice v.mo v.cs.length v.mc, .slice v.eo v.e.length v.ec] 28) = w3 at HZ ⊢
  generalize w2.heap.size = B at HZ ⊢
  have HZd := Lib.hid (HZ.out.call (Below.drew (Below.refl w3.heap.size w3)))
  have hq := HZd.out.box.all
  clear HZ
  refine wp_region_held_drew (S := fun w' => w'.cell? ⟨B, 0, none⟩ = some (.int .i64 v.id) ∧ w'.cell? ⟨B, 1, none⟩ = some (.slice v.no v.n.length v.nc) ∧ w'.cell? ⟨B, 2, none⟩ = some (.slice v.mo v.cs.length v.mc) ∧ w'.cell? ⟨B, 3, none⟩ = some (.slice v.eo v.e.length v.ec)) (by kernel_rfl) (hq) (fun hHeld => ?_)
  generalize w3.drew = wd at HZd hq hHeld ⊢
  refine wpAnyH_take (i := 0) (v := ?_) rfl (by kernel_rfl) (by kernel_rfl) (by kernel_rfl) (fun _ _ _ h => h) (Or.inl ⟨by rfl, ?_⟩) (by assumption) ?_
  rotate_left
  · (intro w hSw; (try dsimp only at hSw); go_simp; (try with_reducible rfl))
  try simp only [pa, pb, pc, Act.put, pe, pf, pg]
  refine wpAnyH_take (i := 1) (v := ?_) rfl (by kernel_rfl) (by kernel_rfl) (by kernel_rfl) (fun _ _ _ h => h) (Or.inl ⟨by rfl, ?_⟩) (by assumption) ?_
  rotate_left
  · (intro w hSw; (try dsimp only at hSw); go_simp; (try with_reducible rfl))
  try simp only [pa, pb, pc, Act.put, pe, pf, pg]
  refine wpAnyH_take (i := 2) (v := ?_) rfl (by kernel_rfl) (by kernel_rfl) (by kernel_rfl) (fun _ _ _ h => h) (Or.inl ⟨by rfl, ?_⟩) (by assumption) ?_
  rotate_left
  · (intro w hSw; (try dsimp only at hSw); go_simp; (try with_reducible rfl))
  try simp only [pa, pb, pc, Act.put, pe, pf, pg]
  refine wpAnyH_take (i := 3) (v := ?_) rfl (by kernel_rfl) (by kernel_rfl) (by kernel_rfl) (fun _ _ _ h => h) (Or.inl ⟨by rfl, ?_⟩) (by assumption) ?_
  rotate_left
  · (intro w hSw; (try dsimp only at hSw); go_simp; (try with_reducible rfl))
  try simp only [pa, pb, pc, Act.put, pe, pf, pg]
  refine wpAnyH_ready (rs := [4]) (by kernel_rfl) (by simp) (AllReadyH.cons rfl (fun K hK => ?_) AllReadyH.nil)
  go_simp
  refine (l11DrawMode_any p _ _ _ _ HZd.out.s HZd.out.a.cs.1).mono ?_
  rintro e w4 ⟨k, rfl, hs4, g4⟩
  have HZ4 := Lib.hid (HZd.out.next hs4 g4)
  have hq4 := HZ4.out.box.all
  clear hs4 g4 HZd
  go_wp2_with fail
  refine hK.out _ _ ?_ (fun hHeld => ?_)
  · exact hq4
  clear hK
  try simp only [pa, pb, pc, Act.put, pe, pf, pg]
  have hr0 := HZ4.out.res.all
  dsimp only [Mv.zero, List.length_nil] at hr0
  obtain ⟨r0, r1, r2, r3⟩ := hr0
  have f0 := HZ4.out.res.f 0; have f1 := HZ4.out.res.f 1; have f2 := HZ4.out.res.f 2; have f3 := HZ4.out.res.f 3
  have HF := Lib.hid HZ4.out.finL
  have hqf := HF.out.2.2.2.2.all
  refine wpAnyH_ready (rs := [5]) (by kernel_rfl) (by simp) (AllReadyH.cons rfl (fun K hK => ?_) AllReadyH.nil)
  go_simp
  refine hK.out _ _ ?_ (fun hHeld => ?_)
  · exact hqf
  clear hK r0 r1 r2 r3 f0 f1 f2 f3 hqf HZ4
  try simp only [pa, pb, pc, Act.put, pe, pf, pg]
  refine wpAnyH_take (i := 6) (v := ?_) rfl (by kernel_rfl) (by kernel_rfl) (by kernel_rfl) (fun _ _ _ h => h) (Or.inl ⟨by rfl, ?_⟩) (by assumption) ?_
  rotate_left
  · (intro w hSw; (try dsimp only at hSw); go_simp; (try with_reducible rfl))
  try simp only [pa, pb, pc, Act.put, pe, pf, pg]
  refine wpAnyH_done (by kernel_rfl) ?_ _
  go_wp2_with fail
  clear hq4
  clear hq
  change bodyPost _ _ _ _ _ (setMv w4 w.heap.size v)
  generalize setMv w4 w.heap.size v = wz at HF hHeld ⊢
  obtain ⟨h1, h2, h3, h4, -⟩ := HF.out
  obtain ⟨e0, e1, e2, e3⟩ := h1.all
  exact bodyPost_ret (v := .tuple #[mvVal v, .int .i64 k]) (by simp [mvVal, results, Tryz.results95, go_sem, e0, e1, e2, e3]) rfl ⟨v, k, rfl, h2, h3, h4⟩
set_option linter.unusedSimpArgs false in
set_option maxRecDepth 100000 in
set_option maxHeartbeats 4000000 in
theorem drawUseOf_any (ao : Option Addr) (n cap : Nat) (xs : List Int) (w : World) (hr : RdB w w.heap.size ao n xs) (hn : n ≤ 1048576) :
    Calls Tryz.prog 44 #[.slice ao n cap] w (DrawnV1L w) := by
  have hb0 : Below w.heap.size w (w.alloc (.cells #[.int .i64 0, .slice none 0 0, .slice none 0 0, .slice none 0 0] 28)) := (Below.refl _ _).alloc (Nat.le_refl _) _
  have HR0 := Lib.hid (show MvAt 28 (w.alloc (.cells #[.int .i64 0, .slice none 0 0, .slice none 0 0, .slice none 0 0] 28)) w.heap.size Mv.zero from MvAt.new (v := Mv.zero) w)
  have HRB := Lib.hid (rdB_later hr hb0); have HB0 := Lib.hid hb0
  clear hr hb0
  go_enter Tryz.func44, Tryz.ntmps44
  go_upto_region 1 with fail
  generalize w.alloc (.cells #[.int .i64 0, .slice none 0 0, .slice none 0 0, .slice none 0 0] 28) = w0 at HR0 HRB HB0 ⊢
  go_wp2_with fail
  refine (drawCycleTimeL_any _ _ _ xs _ HRB.out hn).mono ?_
  rintro e w1 ⟨v, k, rfl, lo, an, b1⟩
  have HM := Lib.hid (HR0.out.below b1 HR0.out.lt)
  have hr0 := HM.out.all
  dsimp only [Mv.zero, List.length_nil] at hr0
  obtain ⟨r0, r1, r2, r3⟩ := hr0
  have f0 := HM.out.f 0; have f1 := HM.out.f 1; have f2 := HM.out.f 2; have f3 := HM.out.f 3
  have HL := Lib.hid ((lo.far (grown_setMv w1 w.heap.size v) HR0.out.lt).more (Nat.le_of_lt HR0.out.lt))
  have HB := Lib.hid ((below_two HB0.out b1).trans (below_setMv (w := w1) (Nat.le_refl w.heap.size) v))
  have HP := Lib.hid (HM.out.put v)
  have HA := Lib.hid an
  clear lo an b1 HR0 HRB HB0
  unfold mvVal
  go_wp2_with fail
  change bodyPost _ _ _ _ _ (setMv w1 w.heap.size v)
  clear r0 r1 r2 r3 f0 f1 f2 f3 HM
  generalize setMv w1 w.heap.size v = wz at HL HB HP ⊢
  obtain ⟨e0, e1, e2, e3⟩ := HP.out.all
  exact bodyPost_ret (v := .tuple #[mvVal v, .int .i64 k]) (by simp [mvVal, results, Tryz.results44, go_sem, e0, e1, e2, e3]) rfl ⟨v, k, rfl, HL.out, HA.out, HB.out⟩
end
end Go.Proofs.YthihjhidjnadaaaGreat
