/-
  Contracts of the program's, the model's and the laws' functions, and plain mathematics, on which a proof of this claim stands (part G).
-/

import Derived.Test.YtnbbbndfpehinaaGreatP17D
import Derived.Test.YtnbbbndfpehinaaGreatP17I
import Derived.Test.YtnbbbndfpehinaaGreatP17N
import Derived.Test.YtnbbbndfpehinaaGreatP17M
import Derived.Test.YtnbbbndfpehinaaGreatP17A
import Derived.Test.YtnbbbndfpehinaaGreatP17S
import Derived.Test.YtnbbbndfpehinaaGreatP17E
import Derived.Test.YtnbbbndfpehinaaGreatP17Y
namespace Go.Proofs.YtnbbbndfpehinaaGreat
section
open Go.RowKit
def DrawnVS (w : World) (e : Ending) (w' : World) : Prop := ∃ (v : Mv) (k t : Int), e = .returned (.tuple #[mvVal v, .int .i64 k, .int .i64 t]) ∧ RdMe w' v ∧ AnyMv v ∧ Below w.heap.size w w'
set_option linter.unusedSimpArgs false in
set_option maxRecDepth 100000 in
set_option maxHeartbeats 4000000 in
theorem drawSlotAt_any (ao : Option Addr) (n cap : Nat) (xs : List Int) (w : World) (hr : RdB w w.heap.size ao n xs) (hn : n ≤ 1048576) :
    Calls Tryz.prog 32 #[.slice ao n cap] w (DrawnVS w) := by
  have hb0 : Below w.heap.size w (w.alloc (.cells #[.int .i64 0, .slice none 0 0, .slice none 0 0, .slice none 0 0] 28)) := (Below.refl _ _).alloc (Nat.le_refl _) _
  have HR0 := Lib.hid (show MvAt 28 (w.alloc (.cells #[.int .i64 0, .slice none 0 0, .slice none 0 0, .slice none 0 0] 28)) w.heap.size Mv.zero from MvAt.new (v := Mv.zero) w)
  have HRB := Lib.hid (rdB_later hr hb0); have HB0 := Lib.hid hb0
  have hz0 : (w.alloc (.cells #[.int .i64 0, .slice none 0 0, .slice none 0 0, .slice none 0 0] 28)).heap.size = w.heap.size + 1 := World.size_alloc ..
  clear hr hb0
  go_enter Tryz.func32, Tryz.ntmps32
  go_upto_region 1 with fail
  generalize w.alloc (.cells #[.int .i64 0, .slice none 0 0, .slice none 0 0, .slice none 0 0] 28) = w0 at HR0 HRB HB0 hz0 ⊢
  go_wp2_with fail
  refine (from_any _ _ _ xs _ HRB.out hn).mono ?_
  rintro e w1 ⟨p, rfl, hlo, hs1, hb1⟩
  rw [hz0] at hlo
  have HR1 := Lib.hid (HR0.out.below hb1 HR0.out.lt); have HS1 := Lib.hid hs1; have HB1 := Lib.hid (below_two HB0.out hb1)
  have hp1 : p < w1.heap.size := hs1.lt
  clear hs1 hb1 HR0 HRB HB0 hz0
  go_wp2_with fail
  refine (l13DrawAny_any p _ HS1.out).mono ?_
  rintro e w2 ⟨v, rfl, lo2, an2, hs2, g2⟩
  have hb3 := (Below.refl w2.heap.size w2).alloc (Nat.le_refl _) (.cells #[.int .i64 v.id, .slice v.no v.n.length v.nc, .slice v.mo v.cs.length v.mc, .slice v.eo v.e.length v.ec] 28)
  have hr2 := HR1.out.grown g2 (fun e => by injection e with e; omega)
  have hz2 := Nat.lt_of_lt_of_le hp1 g2.size
  have HZ := Lib.hid (show DzSt w (w2.alloc (.cells #[.int .i64 v.id, .slice v.no v.n.length v.nc, .slice v.mo v.cs.length v.mc, .slice v.eo v.e.length v.ec] 28)) p w2.heap.size v from ⟨hs2.below hb3, hlo, hr2.below hb3 hr2.lt, MvAt.new w2, by omega, hr2.lt, (lo2.more hp1).below hb3, an2, (HB1.out.grown g2 HB1.out.size (fun k hk => by cases hk; omega)).alloc (Nat.le_trans HB1.out.size g2.size) _⟩)
  clear lo2 an2 hs2 g2 hb3 hr2 HR1 HS1 HB1 hz2 hlo hp1
  unfold mvVal
  go_upto_region 3 with fail
  generalize w2.alloc (.cells #[.int .i64 v.id, .slice v.no v.n.length v.nc, .slice v.mo v.cs.length v.mc, .slice v.eo v.e.length v.ec] 28) = w3 at HZ ⊢
  generalize w2.heap.size = B at HZ ⊢
  obtain ⟨b0, b1, b2, b3⟩ := HZ.out.box.all
  have hcl : v.cs.length ≤ 17 := HZ.out.a.cs.1
  go_wp2_with fail
  refine (l11DrawMode_any _ _ _ _ _ HZ.out.s hcl).mono ?_
  rintro e w4 ⟨k, rfl, hs4, g4⟩
  have HZ4 := Lib.hid (HZ.out.next hs4 g4)
  clear b0 b1 b2 b3 hs4 g4 HZ
  go_upto_region 4 with fail
  have HZd := Lib.hid (HZ4.out.call (Below.drew (Below.refl w4.heap.size w4)))
  have hq := HZd.out.box.all
  clear HZ4
  refine wp_region_held_drew (S := fun w' => w'.cell? ⟨B, 0, none⟩ = some (.int .i64 v.id) ∧ w'.cell? ⟨B, 1, none⟩ = some (.slice v.no v.n.length v.nc) ∧ w'.cell? ⟨B, 2, none⟩ = some (.slice v.mo v.cs.length v.mc) ∧ w'.cell? ⟨B, 3, none⟩ = some (.slice v.eo v.e.length v.ec)) (by kernel_rfl) (hq) (fun hHeld => ?_)
  generalize w4.drew = wd at HZd hq hHeld ⊢
  refine wpAnyH_take (i := 0) (v := ?_) rfl (by kernel_rfl) (by kernel_rfl) (by kernel_rfl) (fun _ _ _ h => h) (Or.inl ⟨by rfl, ?_⟩) (by assumption) ?_
  rotate_left
  · (intro w hSw; (try dsimp only at hSw); go_simp; (try with_reducible rfl))
  try simp only [List.getElem_toArray, List.getElem_cons_succ, List.getElem_cons_zero, Act.put, List.setIfInBounds_toArray, List.set_cons_zero, List.set_cons_succ]
  refine wpAnyH_take (i := 1) (v := ?_) rfl (by kernel_rfl) (by kernel_rfl) (by kernel_rfl) (fun _ _ _ h => h) (Or.inl ⟨by rfl, ?_⟩) (by assumption) ?_
  rotate_left
  · (intro w hSw; (try dsimp only at hSw); go_simp; (try with_reducible rfl))
  try simp only [List.getElem_toArray, List.getElem_cons_succ, List.getElem_cons_zero, Act.put, List.setIfInBounds_toArray, List.set_cons_zero, List.set_cons_succ]
  refine wpAnyH_take (i := 2) (v := ?_) rfl (by kernel_rfl) (by kernel_rfl) (by kernel_rfl) (fun _ _ _ h => h) (Or.inl ⟨by rfl, ?_⟩) (by assumption) ?_
  rotate_left
  · (intro w hSw; (try dsimp only at hSw); go_simp; (try with_reducible rfl))
  try simp only [List.getElem_toArray, List.getElem_cons_succ, List.getElem_cons_zero, Act.put, List.setIfInBounds_toArray, List.set_cons_zero, List.set_cons_succ]
  refine wpAnyH_take (i := 4) (v := ?_) rfl (by kernel_rfl) (by kernel_rfl) (by kernel_rfl) (fun _ _ _ h => h) (Or.inl ⟨by rfl, ?_⟩) (by assumption) ?_
  rotate_left
  · (intro w hSw; (try dsimp only at hSw); go_simp; (try with_reducible rfl))
  try simp only [List.getElem_toArray, List.getElem_cons_succ, List.getElem_cons_zero, Act.put, List.setIfInBounds_toArray, List.set_cons_zero, List.set_cons_succ]
  refine wpAnyH_ready (rs := [3]) (by kernel_rfl) (by simp) (AllReadyH.cons rfl (fun K hK => ?_) AllReadyH.nil)
  go_simp
  refine (next_any _ _ _ HZd.out.s (by omega)).mono ?_
  rintro e w5 ⟨a, rfl, a0, ax, -, hs, g⟩
  have HZ5 := Lib.hid (HZd.out.next hs g)
  clear hs g hq HZd
  have hq := HZ5.out.box.all
  go_wp2_with fail
  refine hK.out _ _ ?_ (fun hHeld => ?_)
  · exact hq
  clear hK K
  try simp only [List.getElem_toArray, List.getElem_cons_succ, List.getElem_cons_zero, Act.put, List.setIfInBounds_toArray, List.set_cons_zero, List.set_cons_succ]
  refine wpAnyH_ready (rs := [5]) (by kernel_rfl) (by simp) (AllReadyH.cons rfl (fun K hK => ?_) AllReadyH.nil)
  go_simp
  refine (next_any _ _ _ HZ5.out.s (by omega)).mono ?_
  rintro e w6 ⟨b, rfl, b0, bx, -, hs, g⟩
  have HZ6 := Lib.hid (HZ5.out.next hs g)
  clear hs g hq HZ5
  have hq := HZ6.out.box.all
  obtain ⟨c5, hc5⟩ : ∃ c, Int.tdiv b 19 = c := ⟨_, rfl⟩
  have hc5' : b / 19 = c5 := by rw [← hc5, Int.tdiv_eq_ediv_of_nonneg b0]
  have hc5w : IntKind.i64.wrap c5 = c5 := by rw [IntKind.wrap_i64]; have := bx (by omega); omega
  obtain ⟨c6, hc6⟩ : ∃ c, IntKind.i64.wrap (a - c5) = c := ⟨_, rfl⟩
  go_wp2_with fail
  refine hK.out _ _ ?_ (fun hHeld => ?_)
  · exact hq
  clear hK K
  try simp only [List.getElem_toArray, List.getElem_cons_succ, List.getElem_cons_zero, Act.put, List.setIfInBounds_toArray, List.set_cons_zero, List.set_cons_succ]
  refine wpAnyH_take (i := 6) (v := ?_) rfl (by kernel_rfl) (by kernel_rfl) (by kernel_rfl) (fun _ _ _ h => h) (Or.inl ⟨by rfl, ?_⟩) (by assumption) ?_
  rotate_left
  · (intro w hSw; (try dsimp only at hSw); go_simp; (try with_reducible rfl))
  try simp only [List.getElem_toArray, List.getElem_cons_succ, List.getElem_cons_zero, Act.put, List.setIfInBounds_toArray, List.set_cons_zero, List.set_cons_succ]
  refine wpAnyH_take (i := 7) (v := ?_) rfl (by kernel_rfl) (by kernel_rfl) (by kernel_rfl) (fun _ _ _ h => h) (Or.inl ⟨by rfl, ?_⟩) (by assumption) ?_
  rotate_left
  · (intro w hSw; (try dsimp only at hSw); go_simp; (try with_reducible rfl))
  try simp only [List.getElem_toArray, List.getElem_cons_succ, List.getElem_cons_zero, Act.put, List.setIfInBounds_toArray, List.set_cons_zero, List.set_cons_succ]
  have hr0 := HZ6.out.res.all
  dsimp only [Mv.zero, List.length_nil] at hr0
  obtain ⟨r0, r1, r2, r3⟩ := hr0
  have f0 := HZ6.out.res.f 0; have f1 := HZ6.out.res.f 1; have f2 := HZ6.out.res.f 2; have f3 := HZ6.out.res.f 3
  have HF := Lib.hid HZ6.out.fin
  have hqf := HF.out.2.2.2.2.all
  refine wpAnyH_ready (rs := [8]) (by kernel_rfl) (by simp) (AllReadyH.cons rfl (fun K hK => ?_) AllReadyH.nil)
  go_simp
  refine hK.out _ _ ?_ (fun hHeld => ?_)
  · exact hqf
  clear hK r0 r1 r2 r3 f0 f1 f2 f3 hqf HZ6 hq
  try simp only [List.getElem_toArray, List.getElem_cons_succ, List.getElem_cons_zero, Act.put, List.setIfInBounds_toArray, List.set_cons_zero, List.set_cons_succ]
  refine wpAnyH_take (i := 9) (v := ?_) rfl (by kernel_rfl) (by kernel_rfl) (by kernel_rfl) (fun _ _ _ h => h) (Or.inl ⟨by rfl, ?_⟩) (by assumption) ?_
  rotate_left
  · (intro w hSw; (try dsimp only at hSw); go_simp; (try with_reducible rfl))
  try simp only [List.getElem_toArray, List.getElem_cons_succ, List.getElem_cons_zero, Act.put, List.setIfInBounds_toArray, List.set_cons_zero, List.set_cons_succ]
  refine wpAnyH_take (i := 10) (v := ?_) rfl (by kernel_rfl) (by kernel_rfl) (by kernel_rfl) (fun _ _ _ h => h) (Or.inl ⟨by rfl, ?_⟩) (by assumption) ?_
  rotate_left
  · (intro w hSw; (try dsimp only at hSw); go_simp; (try with_reducible rfl))
  try simp only [List.getElem_toArray, List.getElem_cons_succ, List.getElem_cons_zero, Act.put, List.setIfInBounds_toArray, List.set_cons_zero, List.set_cons_succ]
  refine wpAnyH_done (by kernel_rfl) ?_ _
  go_wp2_with fail
  change bodyPost _ _ _ _ _ (setMv w6 w.heap.size v)
  clear hHeld
  generalize setMv w6 w.heap.size v = wz at HF ⊢
  obtain ⟨h1, h2, h3, h4, -⟩ := HF.out
  obtain ⟨e0, e1, e2, e3⟩ := h1.all
  exact bodyPost_ret (v := .tuple #[mvVal v, .int .i64 k, .int .i64 c6]) (by simp [mvVal, results, Tryz.results32, go_sem, e0, e1, e2, e3]) rfl ⟨v, k, c6, rfl, h2, h3, h4⟩
end

section
open Go.RowKit
set_option linter.unusedSimpArgs false in
set_option maxRecDepth 100000 in
set_option maxHeartbeats 4000000 in
theorem drawSendTimes_any (ao : Option Addr) (n cap : Nat) (xs : List Int) (w : World) (hr : RdB w w.heap.size ao n xs) (hn : n ≤ 1048576) :
    Calls Tryz.prog 34 #[.slice ao n cap] w (DrawnVS w) := by
  have hb0 : Below w.heap.size w (w.alloc (.cells #[.int .i64 0, .slice none 0 0, .slice none 0 0, .slice none 0 0] 28)) := (Below.refl _ _).alloc (Nat.le_refl _) _
  have HR0 := Lib.hid (show MvAt 28 (w.alloc (.cells #[.int .i64 0, .slice none 0 0, .slice none 0 0, .slice none 0 0] 28)) w.heap.size Mv.zero from MvAt.new (v := Mv.zero) w)
  have HRB := Lib.hid (rdB_later hr hb0); have HB0 := Lib.hid hb0
  have hz0 : (w.alloc (.cells #[.int .i64 0, .slice none 0 0, .slice none 0 0, .slice none 0 0] 28)).heap.size = w.heap.size + 1 := World.size_alloc ..
  clear hr hb0
  go_enter Tryz.func34, Tryz.ntmps34
  go_upto_region 1 with fail
  generalize w.alloc (.cells #[.int .i64 0, .slice none 0 0, .slice none 0 0, .slice none 0 0] 28) = w0 at HR0 HRB HB0 hz0 ⊢
  go_wp2_with fail
  refine (from_any _ _ _ xs _ HRB.out hn).mono ?_
  rintro e w1 ⟨p, rfl, hlo, hs1, hb1⟩
  rw [hz0] at hlo
  have HR1 := Lib.hid (HR0.out.below hb1 HR0.out.lt); have HS1 := Lib.hid hs1; have HB1 := Lib.hid (below_two HB0.out hb1)
  have hp1 : p < w1.heap.size := hs1.lt
  clear hs1 hb1 HR0 HRB HB0 hz0
  go_wp2_with fail
  refine (l13DrawAny_any p _ HS1.out).mono ?_
  rintro e w2 ⟨v, rfl, lo2, an2, hs2, g2⟩
  have hb3 := (Below.refl w2.heap.size w2).alloc (Nat.le_refl _) (.cells #[.int .i64 v.id, .slice v.no v.n.length v.nc, .slice v.mo v.cs.length v.mc, .slice v.eo v.e.length v.ec] 28)
  have hr2 := HR1.out.grown g2 (fun e => by injection e with e; omega)
  have hz2 := Nat.lt_of_lt_of_le hp1 g2.size
  have HZ := Lib.hid (show DzSt w (w2.alloc (.cells #[.int .i64 v.id, .slice v.no v.n.length v.nc, .slice v.mo v.cs.length v.mc, .slice v.eo v.e.length v.ec] 28)) p w2.heap.size v from ⟨hs2.below hb3, hlo, hr2.below hb3 hr2.lt, MvAt.new w2, by omega, hr2.lt, (lo2.more hp1).below hb3, an2, (HB1.out.grown g2 HB1.out.size (fun k hk => by cases hk; omega)).alloc (Nat.le_trans HB1.out.size g2.size) _⟩)
  clear lo2 an2 hs2 g2 hb3 hr2 HR1 HS1 HB1 hz2 hlo hp1
  unfold mvVal
  go_upto_region 3 with fail
  generalize w2.alloc (.cells #[.int .i64 v.id, .slice v.no v.n.length v.nc, .slice v.mo v.cs.length v.mc, .slice v.eo v.e.length v.ec] 28) = w3 at HZ ⊢
  generalize w2.heap.size = B at HZ ⊢
  obtain ⟨b0, b1, b2, b3⟩ := HZ.out.box.all
  have hcl : v.cs.length ≤ 17 := HZ.out.a.cs.1
  go_wp2_with fail
  refine (l11DrawMode_any _ _ _ _ _ HZ.out.s hcl).mono ?_
  rintro e w4 ⟨k, rfl, hs4, g4⟩
  have HZ4 := Lib.hid (HZ.out.next hs4 g4)
  clear b0 b1 b2 b3 hs4 g4 HZ
  obtain ⟨b0, b1, b2, b3⟩ := HZ4.out.box.all
  have hnl : v.n.length ≤ 5 := HZ4.out.a.nl
  rcases Nat.eq_zero_or_pos v.n.length with h0 | h0d
  · obtain ⟨id, n, no, nc, cs, mo, mc, es, eo, ec⟩ := v
    have hn0 : n = [] := List.length_eq_zero_iff.1 h0
    subst hn0
    clear h0 hnl
    simp only [List.length_nil] at b0 b1 b2 b3
    go_upto_region 6 with fail
    have HZd := Lib.hid (HZ4.out.call (Below.drew (Below.refl _ _)))
    have hq := HZd.out.box.all
    simp only [List.length_nil] at hq
    clear HZ4 b0 b1 b2 b3
    refine wp_region_held_drew (S := fun w' => w'.cell? ⟨B, 0, none⟩ = some (.int .i64 id) ∧ w'.cell? ⟨B, 1, none⟩ = some (.slice no 0 nc) ∧ w'.cell? ⟨B, 2, none⟩ = some (.slice mo cs.length mc) ∧ w'.cell? ⟨B, 3, none⟩ = some (.slice eo es.length ec)) (by kernel_rfl) (hq) (fun hHeld => ?_)
    generalize w4.drew = wd at HZd hq hHeld ⊢
    refine wpAnyH_take (i := 0) (v := ?_) rfl (by kernel_rfl) (by kernel_rfl) (by kernel_rfl) (fun _ _ _ h => h) (Or.inl ⟨by rfl, ?_⟩) (by assumption) ?_
    rotate_left
    · (intro w hSw; (try dsimp only at hSw); go_simp; (try with_reducible rfl))
    try simp only [List.getElem_toArray, List.getElem_cons_succ, List.getElem_cons_zero, Act.put, List.setIfInBounds_toArray, List.set_cons_zero, List.set_cons_succ]
    refine wpAnyH_take (i := 1) (v := ?_) rfl (by kernel_rfl) (by kernel_rfl) (by kernel_rfl) (fun _ _ _ h => h) (Or.inl ⟨by rfl, ?_⟩) (by assumption) ?_
    rotate_left
    · (intro w hSw; (try dsimp only at hSw); go_simp; (try with_reducible rfl))
    try simp only [List.getElem_toArray, List.getElem_cons_succ, List.getElem_cons_zero, Act.put, List.setIfInBounds_toArray, List.set_cons_zero, List.set_cons_succ]
    refine wpAnyH_take (i := 2) (v := ?_) rfl (by kernel_rfl) (by kernel_rfl) (by kernel_rfl) (fun _ _ _ h => h) (Or.inl ⟨by rfl, ?_⟩) (by assumption) ?_
    rotate_left
    · (intro w hSw; (try dsimp only at hSw); go_simp; (try with_reducible rfl))
    try simp only [List.getElem_toArray, List.getElem_cons_succ, List.getElem_cons_zero, Act.put, List.setIfInBounds_toArray, List.set_cons_zero, List.set_cons_succ]
    refine wpAnyH_ready (rs := [3]) (by kernel_rfl) (by simp) (AllReadyH.cons rfl (fun K hK => ?_) AllReadyH.nil)
    go_simp
    refine (l05DrawNode_any _ _ HZd.out.s).mono ?_
    rintro e w7 ⟨y, rfl, hs, g⟩
    have HZ7 := Lib.hid (HZd.out.next hs g)
    clear hs g hq HZd
    have hq := HZ7.out.box.all
    simp only [List.length_nil] at hq
    go_wp2_with fail
    refine hK.out _ _ ?_ (fun hHeld => ?_)
    · exact hq
    clear hK K
    try simp only [List.getElem_toArray, List.getElem_cons_succ, List.getElem_cons_zero, Act.put, List.setIfInBounds_toArray, List.set_cons_zero, List.set_cons_succ]
    have hr0 := HZ7.out.res.all
    dsimp only [Mv.zero, List.length_nil] at hr0
    obtain ⟨r0, r1, r2, r3⟩ := hr0
    have f0 := HZ7.out.res.f 0; have f1 := HZ7.out.res.f 1; have f2 := HZ7.out.res.f 2; have f3 := HZ7.out.res.f 3
    have HF := Lib.hid HZ7.out.fin
    have hqf := HF.out.2.2.2.2.all; simp only [List.length_nil] at hqf
    refine wpAnyH_ready (rs := [4]) (by kernel_rfl) (by simp) (AllReadyH.cons rfl (fun K hK => ?_) AllReadyH.nil)
    go_simp
    refine hK.out _ _ ?_ (fun hHeld => ?_)
    · exact hqf
    clear hK r0 r1 r2 r3 f0 f1 f2 f3 hqf HZ7 hq
    try simp only [List.getElem_toArray, List.getElem_cons_succ, List.getElem_cons_zero, Act.put, List.setIfInBounds_toArray, List.set_cons_zero, List.set_cons_succ]
    refine wpAnyH_take (i := 5) (v := ?_) rfl (by kernel_rfl) (by kernel_rfl) (by kernel_rfl) (fun _ _ _ h => h) (Or.inl ⟨by rfl, ?_⟩) (by assumption) ?_
    rotate_left
    · (intro w hSw; (try dsimp only at hSw); go_simp; (try with_reducible rfl))
    try simp only [List.getElem_toArray, List.getElem_cons_succ, List.getElem_cons_zero, Act.put, List.setIfInBounds_toArray, List.set_cons_zero, List.set_cons_succ]
    refine wpAnyH_take (i := 6) (v := ?_) rfl (by kernel_rfl) (by kernel_rfl) (by kernel_rfl) (fun _ _ _ h => h) (Or.inl ⟨by rfl, ?_⟩) (by assumption) ?_
    rotate_left
    · (intro w hSw; (try dsimp only at hSw); go_simp; (try with_reducible rfl))
    try simp only [List.getElem_toArray, List.getElem_cons_succ, List.getElem_cons_zero, Act.put, List.setIfInBounds_toArray, List.set_cons_zero, List.set_cons_succ]
    refine wpAnyH_done (by kernel_rfl) ?_ _
    go_wp2_with fail
    change bodyPost _ _ _ _ _ (setMv w7 w.heap.size ⟨id, [], no, nc, cs, mo, mc, es, eo, ec⟩)
    clear hHeld
    generalize setMv w7 w.heap.size ⟨id, [], no, nc, cs, mo, mc, es, eo, ec⟩ = wz at HF ⊢
    obtain ⟨h1, h2, h3, h4, -⟩ := HF.out
    obtain ⟨e0, e1, e2, e3⟩ := h1.all
    exact bodyPost_ret (v := .tuple #[mvVal ⟨id, [], no, nc, cs, mo, mc, es, eo, ec⟩, .int .i64 k, .int .i64 y]) (by simp [mvVal, results, Tryz.results34, go_sem, e0, e1, e2, e3]) rfl ⟨⟨id, [], no, nc, cs, mo, mc, es, eo, ec⟩, k, y, rfl, h2, h3, h4⟩
  · go_wp2_with fail
    refine (next_any _ _ _ HZ4.out.s (by omega)).mono ?_
    rintro e w5 ⟨rr, rfl, rr0, -, -, hs, g⟩
    have HZ5 := Lib.hid (HZ4.out.next hs g)
    clear hs g HZ4 b0 b1 b2 b3
    by_cases h1 : 0 < rr
    · obtain ⟨id, n, no, nc, cs, mo, mc, es, eo, ec⟩ := v
      obtain ⟨g, off, e0, -⟩ := HZ5.out.t.rn.here h0d
      dsimp only at e0 h0d hnl
      subst e0
      go_upto_region 5 with fail
      have HZd := Lib.hid (HZ5.out.call (Below.drew (Below.refl w5.heap.size w5)))
      have hq := HZd.out.box.all
      dsimp only at hq
      clear HZ5
      refine wp_region_held_drew (S := fun w' => w'.cell? ⟨B, 0, none⟩ = some (.int .i64 id) ∧ w'.cell? ⟨B, 1, none⟩ = some (.slice (some ⟨g, off, none⟩) n.length nc) ∧ w'.cell? ⟨B, 2, none⟩ = some (.slice mo cs.length mc) ∧ w'.cell? ⟨B, 3, none⟩ = some (.slice eo es.length ec)) (by kernel_rfl) (hq) (fun hHeld => ?_)
      generalize w5.drew = wd at HZd hq hHeld ⊢
      refine wpAnyH_take (i := 0) (v := ?_) rfl (by kernel_rfl) (by kernel_rfl) (by kernel_rfl) (fun _ _ _ h => h) (Or.inl ⟨by rfl, ?_⟩) (by assumption) ?_
      rotate_left
      · (intro w hSw; (try dsimp only at hSw); go_simp; (try with_reducible rfl))
      try simp only [List.getElem_toArray, List.getElem_cons_succ, List.getElem_cons_zero, Act.put, List.setIfInBounds_toArray, List.set_cons_zero, List.set_cons_succ]
      refine wpAnyH_take (i := 1) (v := ?_) rfl (by kernel_rfl) (by kernel_rfl) (by kernel_rfl) (fun _ _ _ h => h) (Or.inl ⟨by rfl, ?_⟩) (by assumption) ?_
      rotate_left
      · (intro w hSw; (try dsimp only at hSw); go_simp; (try with_reducible rfl))
      try simp only [List.getElem_toArray, List.getElem_cons_succ, List.getElem_cons_zero, Act.put, List.setIfInBounds_toArray, List.set_cons_zero, List.set_cons_succ]
      refine wpAnyH_take (i := 2) (v := ?_) rfl (by kernel_rfl) (by kernel_rfl) (by kernel_rfl) (fun _ _ _ h => h) (Or.inl ⟨by rfl, ?_⟩) (by assumption) ?_
      rotate_left
      · (intro w hSw; (try dsimp only at hSw); go_simp; (try with_reducible rfl))
      try simp only [List.getElem_toArray, List.getElem_cons_succ, List.getElem_cons_zero, Act.put, List.setIfInBounds_toArray, List.set_cons_zero, List.set_cons_succ]
      refine wpAnyH_take (i := 3) (v := ?_) rfl (by kernel_rfl) (by kernel_rfl) (by kernel_rfl) (fun _ _ _ h => h) (Or.inl ⟨by rfl, ?_⟩) (by assumption) ?_
      rotate_left
      · (intro w hSw; (try dsimp only at hSw); go_simp; (try with_reducible rfl))
      try simp only [List.getElem_toArray, List.getElem_cons_succ, List.getElem_cons_zero, Act.put, List.setIfInBounds_toArray, List.set_cons_zero, List.set_cons_succ]
      refine wpAnyH_take (i := 4) (v := ?_) rfl (by kernel_rfl) (by kernel_rfl) (by kernel_rfl) (fun _ _ _ h => h) (Or.inl ⟨by rfl, ?_⟩) (by assumption) ?_
      rotate_left
      · (intro w hSw; (try dsimp only at hSw); go_simp; (try with_reducible rfl))
      try simp only [List.getElem_toArray, List.getElem_cons_succ, List.getElem_cons_zero, Act.put, List.setIfInBounds_toArray, List.set_cons_zero, List.set_cons_succ]
      refine wpAnyH_take (i := 5) (v := ?_) rfl (by kernel_rfl) (by kernel_rfl) (by kernel_rfl) (fun _ _ _ h => h) (Or.inl ⟨by rfl, ?_⟩) (by assumption) ?_
      rotate_left
      · (intro w hSw; (try dsimp only at hSw); go_simp; (try with_reducible rfl))
      try simp only [List.getElem_toArray, List.getElem_cons_succ, List.getElem_cons_zero, Act.put, List.setIfInBounds_toArray, List.set_cons_zero, List.set_cons_succ]
      refine wpAnyH_take (i := 6) (v := ?_) rfl (by kernel_rfl) (by kernel_rfl) (by kernel_rfl) (fun _ _ _ h => h) (Or.inl ⟨by rfl, ?_⟩) (by assumption) ?_
      rotate_left
      · (intro w hSw; (try dsimp only at hSw); go_simp; (try with_reducible rfl))
      try simp only [List.getElem_toArray, List.getElem_cons_succ, List.getElem_cons_zero, Act.put, List.setIfInBounds_toArray, List.set_cons_zero, List.set_cons_succ]
      refine wpAnyH_take (i := 7) (v := ?_) rfl (by kernel_rfl) (by kernel_rfl) (by kernel_rfl) (fun _ _ _ h => h) (Or.inl ⟨by rfl, ?_⟩) (by assumption) ?_
      rotate_left
      · (intro w hSw; (try dsimp only at hSw); go_simp; (try with_reducible rfl))
      try simp only [List.getElem_toArray, List.getElem_cons_succ, List.getElem_cons_zero, Act.put, List.setIfInBounds_toArray, List.set_cons_zero, List.set_cons_succ]
      refine wpAnyH_ready (rs := [8]) (by kernel_rfl) (by simp) (AllReadyH.cons rfl (fun K hK => ?_) AllReadyH.nil)
      go_simp
      refine (next_any _ _ _ HZd.out.s (by omega)).mono ?_
      rintro e w6 ⟨a, rfl, a0, ax, az, hs, g⟩
      have HZ6 := Lib.hid (HZd.out.next hs g)
      clear hs g hq HZd
      have hq := HZ6.out.box.all
      dsimp only at hq
      go_wp2_with fail
      refine hK.out _ _ ?_ (fun hHeld => ?_)
      · exact hq
      clear hK K
      try simp only [List.getElem_toArray, List.getElem_cons_succ, List.getElem_cons_zero, Act.put, List.setIfInBounds_toArray, List.set_cons_zero, List.set_cons_succ]
      obtain ⟨ai, hai⟩ : ∃ i : Nat, a = i := ⟨a.toNat, by omega⟩
      subst hai
      have hlt : ai < n.length := by
        by_cases h2 : 1 < (n.length : Int)
        · have := ax h2; omega
        · have := az (by omega); omega
      clear ax az
      obtain ⟨g', off', e0, hx⟩ := HZ6.out.t.rn.here h0d
      dsimp only at e0 hx
      cases e0
      have hx0 := (hx ai hlt).c0
      obtain ⟨y, hyy⟩ : ∃ y, (ndOf n ai).id = y := ⟨_, rfl⟩
      rw [hyy] at hx0
      clear hx
      refine wpAnyH_take (i := 9) (v := ?_) rfl (by kernel_rfl) (by kernel_rfl) (by kernel_rfl) (fun _ _ _ h => h) (Or.inl ⟨by rfl, ?_⟩) (by assumption) ?_
      rotate_left
      · (intro w hSw; (try dsimp only at hSw); go_simp; (try with_reducible rfl))
      try simp only [List.getElem_toArray, List.getElem_cons_succ, List.getElem_cons_zero, Act.put, List.setIfInBounds_toArray, List.set_cons_zero, List.set_cons_succ]
      refine wpAnyH_take (i := 10) (v := ?_) rfl (by kernel_rfl) (by kernel_rfl) (by kernel_rfl) (fun _ _ _ h => h) (Or.inl ⟨by rfl, ?_⟩) (by assumption) ?_
      rotate_left
      · (intro w hSw; (try dsimp only at hSw); go_simp; (try with_reducible rfl))
      try simp only [List.getElem_toArray, List.getElem_cons_succ, List.getElem_cons_zero, Act.put, List.setIfInBounds_toArray, List.set_cons_zero, List.set_cons_succ]
      refine wpAnyH_ready (rs := [11, 12]) (by kernel_rfl) (by simp) (AllReadyH.cons rfl (fun K hK => ?_) (AllReadyH.cons rfl (fun K hK => ?_) AllReadyH.nil))
      · go_simp
        clear hx0
        refine hK.out _ _ ?_ (fun hHeld => ?_)
        · exact hq
        clear hK K
        try simp only [List.getElem_toArray, List.getElem_cons_succ, List.getElem_cons_zero, Act.put, List.setIfInBounds_toArray, List.set_cons_zero, List.set_cons_succ]
        have hr0 := HZ6.out.res.all
        dsimp only [Mv.zero, List.length_nil] at hr0
        obtain ⟨r0, r1, r2, r3⟩ := hr0
        have f0 := HZ6.out.res.f 0; have f1 := HZ6.out.res.f 1; have f2 := HZ6.out.res.f 2; have f3 := HZ6.out.res.f 3
        have HF := Lib.hid HZ6.out.fin
        have hqf := HF.out.2.2.2.2.all; dsimp only at hqf
        refine wpAnyH_ready (rs := [12]) (by kernel_rfl) (by simp) (AllReadyH.cons rfl (fun K hK => ?_) AllReadyH.nil)
        go_simp
        refine hK.out _ _ ?_ (fun hHeld => ?_)
        · exact hqf
        clear hK K r0 r1 r2 r3 f0 f1 f2 f3 hqf HZ6 hq
        try simp only [List.getElem_toArray, List.getElem_cons_succ, List.getElem_cons_zero, Act.put, List.setIfInBounds_toArray, List.set_cons_zero, List.set_cons_succ]
        refine wpAnyH_take (i := 13) (v := ?_) rfl (by kernel_rfl) (by kernel_rfl) (by kernel_rfl) (fun _ _ _ h => h) (Or.inl ⟨by rfl, ?_⟩) (by assumption) ?_
        rotate_left
        · (intro w hSw; (try dsimp only at hSw); go_simp; (try with_reducible rfl))
        try simp only [List.getElem_toArray, List.getElem_cons_succ, List.getElem_cons_zero, Act.put, List.setIfInBounds_toArray, List.set_cons_zero, List.set_cons_succ]
        refine wpAnyH_take (i := 14) (v := ?_) rfl (by kernel_rfl) (by kernel_rfl) (by kernel_rfl) (fun _ _ _ h => h) (Or.inl ⟨by rfl, ?_⟩) (by assumption) ?_
        rotate_left
        · (intro w hSw; (try dsimp only at hSw); go_simp; (try with_reducible rfl))
        try simp only [List.getElem_toArray, List.getElem_cons_succ, List.getElem_cons_zero, Act.put, List.setIfInBounds_toArray, List.set_cons_zero, List.set_cons_succ]
        refine wpAnyH_done (by kernel_rfl) ?_ _
        go_wp2_with fail
        change bodyPost _ _ _ _ _ (setMv w6 w.heap.size ⟨id, n, some ⟨g, off, none⟩, nc, cs, mo, mc, es, eo, ec⟩)
        clear hHeld
        generalize setMv w6 w.heap.size ⟨id, n, some ⟨g, off, none⟩, nc, cs, mo, mc, es, eo, ec⟩ = wz at HF ⊢
        obtain ⟨h1, h2, h3, h4, -⟩ := HF.out
        obtain ⟨e0, e1, e2, e3⟩ := h1.all
        exact bodyPost_ret (v := .tuple #[mvVal ⟨id, n, some ⟨g, off, none⟩, nc, cs, mo, mc, es, eo, ec⟩, .int .i64 k, .int .i64 y]) (by simp [mvVal, results, Tryz.results34, go_sem, e0, e1, e2, e3]) rfl ⟨⟨id, n, some ⟨g, off, none⟩, nc, cs, mo, mc, es, eo, ec⟩, k, y, rfl, h2, h3, h4⟩
      · have hr0 := HZ6.out.res.all
        dsimp only [Mv.zero, List.length_nil] at hr0
        obtain ⟨r0, r1, r2, r3⟩ := hr0
        have f0 := HZ6.out.res.f 0; have f1 := HZ6.out.res.f 1; have f2 := HZ6.out.res.f 2; have f3 := HZ6.out.res.f 3
        have HF := Lib.hid HZ6.out.fin
        have hqf := HF.out.2.2.2.2.all; dsimp only at hqf
        go_simp
        refine hK.out _ (setMv w6 w.heap.size ⟨id, n, some ⟨g, off, none⟩, nc, cs, mo, mc, es, eo, ec⟩) ?_ (fun hHeld => ?_)
        · exact hqf
        obtain ⟨g', off', e0', hy⟩ := HF.out.2.1.rn.here h0d
        dsimp only at e0' hy
        cases e0'
        have hy0 := (hy ai hlt).c0
        rw [hyy] at hy0
        clear hy hx0
        clear hK K r0 r1 r2 r3 f0 f1 f2 f3 HZ6 hq
        generalize (setMv w6 w.heap.size ⟨id, n, some ⟨g, off, none⟩, nc, cs, mo, mc, es, eo, ec⟩) = wz at HF hqf hy0 hHeld ⊢
        try simp only [List.getElem_toArray, List.getElem_cons_succ, List.getElem_cons_zero, Act.put, List.setIfInBounds_toArray, List.set_cons_zero, List.set_cons_succ]
        refine wpAnyH_take (i := 13) (v := ?_) rfl (by kernel_rfl) (by kernel_rfl) (by kernel_rfl) (fun _ _ _ h => h) (Or.inl ⟨by rfl, ?_⟩) (by assumption) ?_
        rotate_left
        · (intro w hSw; (try dsimp only at hSw); go_simp; (try with_reducible rfl))
        try simp only [List.getElem_toArray, List.getElem_cons_succ, List.getElem_cons_zero, Act.put, List.setIfInBounds_toArray, List.set_cons_zero, List.set_cons_succ]
        refine wpAnyH_ready (rs := [11]) (by kernel_rfl) (by simp) (AllReadyH.cons rfl (fun K hK => ?_) AllReadyH.nil)
        go_simp
        clear hy0
        refine hK.out _ _ ?_ (fun hHeld => ?_)
        · exact hqf
        clear hK K
        try simp only [List.getElem_toArray, List.getElem_cons_succ, List.getElem_cons_zero, Act.put, List.setIfInBounds_toArray, List.set_cons_zero, List.set_cons_succ]
        refine wpAnyH_take (i := 14) (v := ?_) rfl (by kernel_rfl) (by kernel_rfl) (by kernel_rfl) (fun _ _ _ h => h) (Or.inl ⟨by rfl, ?_⟩) (by assumption) ?_
        rotate_left
        · (intro w hSw; (try dsimp only at hSw); go_simp; (try with_reducible rfl))
        try simp only [List.getElem_toArray, List.getElem_cons_succ, List.getElem_cons_zero, Act.put, List.setIfInBounds_toArray, List.set_cons_zero, List.set_cons_succ]
        refine wpAnyH_done (by kernel_rfl) ?_ _
        go_wp2_with fail
        clear hHeld hqf
        obtain ⟨h1, h2, h3, h4, -⟩ := HF.out
        obtain ⟨e0, e1, e2, e3⟩ := h1.all
        dsimp only at e0 e1 e2 e3
        exact bodyPost_ret (v := .tuple #[mvVal ⟨id, n, some ⟨g, off, none⟩, nc, cs, mo, mc, es, eo, ec⟩, .int .i64 k, .int .i64 y]) (by simp [mvVal, results, Tryz.results34, go_sem, e0, e1, e2, e3]) rfl ⟨⟨id, n, some ⟨g, off, none⟩, nc, cs, mo, mc, es, eo, ec⟩, k, y, rfl, h2, h3, h4⟩
    · have h1d : ¬ 0 < rr := h1
      go_upto_region 6 with fail
      have HZd := Lib.hid (HZ5.out.call (Below.drew (Below.refl _ _)))
      have hq := HZd.out.box.all
      clear HZ5
      refine wp_region_held_drew (S := fun w' => w'.cell? ⟨B, 0, none⟩ = some (.int .i64 v.id) ∧ w'.cell? ⟨B, 1, none⟩ = some (.slice v.no v.n.length v.nc) ∧ w'.cell? ⟨B, 2, none⟩ = some (.slice v.mo v.cs.length v.mc) ∧ w'.cell? ⟨B, 3, none⟩ = some (.slice v.eo v.e.length v.ec)) (by kernel_rfl) (hq) (fun hHeld => ?_)
      generalize w5.drew = wd at HZd hq hHeld ⊢
      refine wpAnyH_take (i := 0) (v := ?_) rfl (by kernel_rfl) (by kernel_rfl) (by kernel_rfl) (fun _ _ _ h => h) (Or.inl ⟨by rfl, ?_⟩) (by assumption) ?_
      rotate_left
      · (intro w hSw; (try dsimp only at hSw); go_simp; (try with_reducible rfl))
      try simp only [List.getElem_toArray, List.getElem_cons_succ, List.getElem_cons_zero, Act.put, List.setIfInBounds_toArray, List.set_cons_zero, List.set_cons_succ]
      refine wpAnyH_take (i := 1) (v := ?_) rfl (by kernel_rfl) (by kernel_rfl) (by kernel_rfl) (fun _ _ _ h => h) (Or.inl ⟨by rfl, ?_⟩) (by assumption) ?_
      rotate_left
      · (intro w hSw; (try dsimp only at hSw); go_simp; (try with_reducible rfl))
      try simp only [List.getElem_toArray, List.getElem_cons_succ, List.getElem_cons_zero, Act.put, List.setIfInBounds_toArray, List.set_cons_zero, List.set_cons_succ]
      refine wpAnyH_take (i := 2) (v := ?_) rfl (by kernel_rfl) (by kernel_rfl) (by kernel_rfl) (fun _ _ _ h => h) (Or.inl ⟨by rfl, ?_⟩) (by assumption) ?_
      rotate_left
      · (intro w hSw; (try dsimp only at hSw); go_simp; (try with_reducible rfl))
      try simp only [List.getElem_toArray, List.getElem_cons_succ, List.getElem_cons_zero, Act.put, List.setIfInBounds_toArray, List.set_cons_zero, List.set_cons_succ]
      refine wpAnyH_ready (rs := [3]) (by kernel_rfl) (by simp) (AllReadyH.cons rfl (fun K hK => ?_) AllReadyH.nil)
      go_simp
      refine (l05DrawNode_any _ _ HZd.out.s).mono ?_
      rintro e w7 ⟨y, rfl, hs, g⟩
      have HZ7 := Lib.hid (HZd.out.next hs g)
      clear hs g hq HZd
      have hq := HZ7.out.box.all
      go_wp2_with fail
      refine hK.out _ _ ?_ (fun hHeld => ?_)
      · exact hq
      clear hK K
      try simp only [List.getElem_toArray, List.getElem_cons_succ, List.getElem_cons_zero, Act.put, List.setIfInBounds_toArray, List.set_cons_zero, List.set_cons_succ]
      have hr0 := HZ7.out.res.all
      dsimp only [Mv.zero, List.length_nil] at hr0
      obtain ⟨r0, r1, r2, r3⟩ := hr0
      have f0 := HZ7.out.res.f 0; have f1 := HZ7.out.res.f 1; have f2 := HZ7.out.res.f 2; have f3 := HZ7.out.res.f 3
      have HF := Lib.hid HZ7.out.fin
      have hqf := HF.out.2.2.2.2.all
      refine wpAnyH_ready (rs := [4]) (by kernel_rfl) (by simp) (AllReadyH.cons rfl (fun K hK => ?_) AllReadyH.nil)
      go_simp
      refine hK.out _ _ ?_ (fun hHeld => ?_)
      · exact hqf
      clear hK r0 r1 r2 r3 f0 f1 f2 f3 hqf HZ7 hq
      try simp only [List.getElem_toArray, List.getElem_cons_succ, List.getElem_cons_zero, Act.put, List.setIfInBounds_toArray, List.set_cons_zero, List.set_cons_succ]
      refine wpAnyH_take (i := 5) (v := ?_) rfl (by kernel_rfl) (by kernel_rfl) (by kernel_rfl) (fun _ _ _ h => h) (Or.inl ⟨by rfl, ?_⟩) (by assumption) ?_
      rotate_left
      · (intro w hSw; (try dsimp only at hSw); go_simp; (try with_reducible rfl))
      try simp only [List.getElem_toArray, List.getElem_cons_succ, List.getElem_cons_zero, Act.put, List.setIfInBounds_toArray, List.set_cons_zero, List.set_cons_succ]
      refine wpAnyH_take (i := 6) (v := ?_) rfl (by kernel_rfl) (by kernel_rfl) (by kernel_rfl) (fun _ _ _ h => h) (Or.inl ⟨by rfl, ?_⟩) (by assumption) ?_
      rotate_left
      · (intro w hSw; (try dsimp only at hSw); go_simp; (try with_reducible rfl))
      try simp only [List.getElem_toArray, List.getElem_cons_succ, List.getElem_cons_zero, Act.put, List.setIfInBounds_toArray, List.set_cons_zero, List.set_cons_succ]
      refine wpAnyH_done (by kernel_rfl) ?_ _
      go_wp2_with fail
      change bodyPost _ _ _ _ _ (setMv w7 w.heap.size v)
      clear hHeld
      generalize setMv w7 w.heap.size v = wz at HF ⊢
      obtain ⟨h1, h2, h3, h4, -⟩ := HF.out
      obtain ⟨e0, e1, e2, e3⟩ := h1.all
      exact bodyPost_ret (v := .tuple #[mvVal v, .int .i64 k, .int .i64 y]) (by simp [mvVal, results, Tryz.results34, go_sem, e0, e1, e2, e3]) rfl ⟨v, k, y, rfl, h2, h3, h4⟩
end

section
open Go.RowKit
theorem slotAt_ok {m : Me} {k t : Int} (h : (slotAt m k t).2.2 = 0) : ∃ j : Nat, k = j ∧ j < m.modes.length ∧ Well m := by
  by_cases hc : codeMe m k = 0
  · obtain ⟨j, rfl, hj, hm, -, -⟩ := codeMe_yes hc
    exact ⟨j, rfl, hj, medl_iff.1 hm⟩
  · unfold slotAt at h
    rw [show codeLm m k = codeMe m k from rfl, if_neg hc] at h
    exact absurd h hc
theorem code_zero {m : Me} {j : Nat} (W : Well m) (hj : j < m.modes.length) : codeLm m (j : Int) = 0 := by
  unfold codeLm
  rw [if_neg (by rw [medl_iff.2 W]; simp), if_neg (by rw [isMode_iff.2 ⟨by omega, by omega⟩]; simp)]
theorem host_one {m : Me} {j : Nat} (W : Well m) (hj : j < m.modes.length) {i : Nat} (hi : i < m.nodes.length) :
    sendTimes m (j : Int) (ndOf m.nodes i).id = (sendTo (inMode m.slots j) (ndOf m.nodes i).id (inMode m.slots j).length, 0) := by
  unfold sendTimes
  rw [if_pos (code_zero W hj), find_at W.r2 hi, if_pos rfl, Int.toNat_natCast]
theorem hostTo_le (t : List Nd) (L : List Sl) : ∀ i, hostTo t L i ≤ i * L.length
  | 0 => by simp [hostTo]
  | i + 1 => by
    have h := hostTo_le t L i
    rw [hostTo, sendTo_len _ _ _ (Nat.le_refl _), Nat.succ_mul]
    have h2 := List.length_filter_le (fun x => decide (x.desc.node = (ndOf t i).id)) (L.take L.length)
    rw [List.length_take] at h2
    omega
theorem host_cycle {m : Me} {j : Nat} (W : Well m) (hj : j < m.modes.length) : cycleSlots m.modes (j : Int) = (((hostTo m.nodes (inMode m.slots j) m.nodes.length : Nat) : Int), 0) := by
  have b := md_bounds W.r3 hj
  unfold cycleSlots
  rw [if_neg (by rw [W.r3]; simp), if_neg (by rw [isMode_iff.2 ⟨by omega, by omega⟩]; simp), Int.toNat_natCast, count_law W, cyc_len W hj]
  have h1 : (mdOf m.modes j).rounds = ((mdOf m.modes j).rounds.toNat : Int) := by omega
  have h2 : (mdOf m.modes j).slots = ((mdOf m.modes j).slots.toNat : Int) := by omega
  rw [Int.natCast_mul, ← h1, ← h2]
theorem mode_small {m : Me} {j : Nat} (W : Well m) : (inMode m.slots j).length ≤ 1048576 := by
  have h1 := (isSls_iff.1 W.r4).1
  have h2 := inMode_le m.slots j
  omega
end
end Go.Proofs.YtnbbbndfpehinaaGreat
