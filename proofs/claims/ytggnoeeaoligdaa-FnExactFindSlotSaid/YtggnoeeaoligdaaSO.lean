/-
  Chapter 12: the program's reader: a descriptor, an entry.
-/
import Derived.Test.YtggnoeeaoligdaaSP
import Derived.Test.YtggnoeeaoligdaaSw
import Derived.Test.YtggnoeeaoligdaaRtA
import Derived.Test.YtggnoeeaoligdaaEigB
import Derived.Test.YtggnoeeaoligdaaBase
namespace Go.Proofs.Ytggnoeeaoligdaa
open Go.RowKit

def dsVal (d : Ds) : Value := .agg #[.int .i64 d.node, .int .i64 d.kind, .int .i64 d.size, .int .i64 d.dur, .bool d.chg]
/-- What a descriptor's reading leaves. -/
def GotDs (w : World) (p : Nat) (o : Option (Ds × List Int)) (e : Ending) (w' : World) : Prop :=
  match o with
  | some (d, r) => e = .returned (dsVal d) ∧ RdrAt w' p r ∧ w.grownBy w' (some p)
  | none => Bad w p e w'
theorem RdrAt.step {w W W' : World} {p : Nat} {r r' : List Int} (_h : RdrAt W p r) (hr : RdrAt W' p r') (g1 : w.grownBy W (some p)) (g2 : W.grownBy W' (some p)) : RdrAt W' p r' ∧ w.grownBy W' (some p) := ⟨hr, grown_trans g1 g2⟩
theorem desc_short (p : Nat) (ys : List Int) (w : World) (h : RdrAt w p ys) (hl : ys.length < 5) :
    Calls Try.prog 133 #[.pointer (some ⟨p, 0, none⟩)] w (Bad w p) := by
  have hb : Below w.heap.size w (w.alloc (.cells #[.int .i64 0, .int .i64 0, .int .i64 0, .int .i64 0, .bool false] 36)) := (Below.refl _ _).alloc (Nat.le_refl _) _
  have HC := Lib.hid (take_bad p 5 ys _ (h.below hb h.lt) hl)
  have HG := Lib.hid (grown_of_b hb (some p))
  clear h hb
  go_enter Try.func133, Try.ntmps133
  go_wp2_with fail
  refine HC.out.mono ?_
  rintro e w1 ⟨⟨u, v, rfl⟩, g1⟩
  go_wp2_with fail
  exact ⟨rfl, ⟨_, _, rfl⟩, grown_trans HG.out g1⟩
set_option maxRecDepth 100000 in
set_option maxHeartbeats 1000000 in
theorem desc_bad (p : Nat) (ys : List Int) (w : World) (h : RdrAt w p ys) (hl : 5 ≤ ys.length) (hd : (descFrom (ys.take 5)).2 ≠ 0) :
    Calls Try.prog 133 #[.pointer (some ⟨p, 0, none⟩)] w (Bad w p) := by
  have hb : Below w.heap.size w (w.alloc (.cells #[.int .i64 0, .int .i64 0, .int .i64 0, .int .i64 0, .bool false] 36)) := (Below.refl _ _).alloc (Nat.le_refl _) _
  have hcc := take_ok p 5 ys _ (h.below hb h.lt) hl
  unfold Took at hcc
  have HG := Lib.hid (grown_of_b hb (some p))
  obtain ⟨zs, hzs⟩ : ∃ zs, zs = ys.take 5 := ⟨_, rfl⟩
  rw [← hzs] at hd hcc
  have HC := Lib.hid hcc; clear hcc
  clear h hb hl hzs
  obtain ⟨c, hc⟩ : ∃ c, c = (descFrom zs).2 := ⟨_, rfl⟩
  rw [← hc] at hd
  have hz : (c == 0) = false := by simp [hd]
  have HCC := Lib.hid hc
  have hreq := fun W => require_bad (.pointer (some ⟨p, 0, none⟩)) W p
  clear hc hd
  go_enter Try.func133, Try.ntmps133
  go_wp2_with fail
  refine HC.out.mono ?_
  rintro e w1 ⟨ao, cap, rfl, hr, -, hcm, -, -, g1⟩
  have HR := Lib.hid (descFromBytes_any ao 5 cap zs w1 hr (by omega))
  have HG1 := Lib.hid (grown_trans HG.out g1)
  clear hr g1 HC HG
  rw [← HCC.out] at HR
  go_wp2_with fail
  refine HR.out.mono ?_
  rintro e w2 ⟨rfl, b2⟩
  have HG2 := Lib.hid (grown_low HG1.out (by have := HG1.out.size; exact b2.mono this))
  clear b2
  go_wp2_with fail
  refine (hreq _).mono ?_
  rintro e w4 ⟨⟨u, v, rfl⟩, g4⟩
  go_wp2_with fail
  exact ⟨rfl, ⟨_, _, rfl⟩, grown_trans (grown_low HG2.out ((Below.refl _ _).alloc HG2.out.size _)) g4⟩
set_option maxRecDepth 100000 in
set_option maxHeartbeats 1000000 in
theorem desc_ok (p : Nat) (ys : List Int) (w : World) (h : RdrAt w p ys) (hl : 5 ≤ ys.length) (hd : (descFrom (ys.take 5)).2 = 0) :
    Calls Try.prog 133 #[.pointer (some ⟨p, 0, none⟩)] w (GotDs w p (some ((descFrom (ys.take 5)).1, ys.drop 5))) := by
  have hlt := h.lt
  have hb : Below w.heap.size w (w.alloc (.cells #[.int .i64 0, .int .i64 0, .int .i64 0, .int .i64 0, .bool false] 36)) := (Below.refl _ _).alloc (Nat.le_refl _) _
  have hcc := take_ok p 5 ys _ (h.below hb h.lt) hl
  unfold Took at hcc
  have HG := Lib.hid (grown_of_b hb (some p))
  have HV := Lib.hid (DescAt.new (T := 36) (n := 0) (a := 0) (z := 0) (u := 0) (c := false) w)
  have hs1 : (w.alloc (.cells #[.int .i64 0, .int .i64 0, .int .i64 0, .int .i64 0, .bool false] 36)).heap.size = w.heap.size + 1 := by simp
  obtain ⟨zs, hzs⟩ : ∃ zs, zs = ys.take 5 := ⟨_, rfl⟩
  obtain ⟨rs, hrs⟩ : ∃ rs, rs = ys.drop 5 := ⟨_, rfl⟩
  rw [← hzs] at hd hcc ⊢
  rw [← hrs] at hcc ⊢
  have HC := Lib.hid hcc; clear hcc
  clear h hb hl hzs hrs
  obtain ⟨d, hde⟩ : ∃ d, d = (descFrom zs).1 := ⟨_, rfl⟩
  rw [← hde]
  have HD := Lib.hid hd; have HDE := Lib.hid hde
  have hreq := fun W => require_ok (.pointer (some ⟨p, 0, none⟩)) W
  clear hd hde
  go_enter Try.func133, Try.ntmps133
  go_wp2_with fail
  refine HC.out.mono ?_
  rintro e w1 ⟨ao, cap, rfl, hr, -, hcm, -, hR, g1⟩
  have HR := Lib.hid (descFromBytes_any ao 5 cap zs w1 hr (by omega))
  have HV1 := Lib.hid (HV.out.grown g1 (by simp; omega))
  have HG1 := Lib.hid (grown_trans HG.out g1)
  have HZ1 := Lib.hid (show w.heap.size + 1 ≤ w1.heap.size from by rw [← hs1]; exact g1.size)
  have HRD := Lib.hid hR
  clear hr g1 HC HG hR HV hs1
  rw [HD.out, ← HDE.out] at HR
  go_wp2_with fail
  refine HR.out.mono ?_
  rintro e w2 ⟨rfl, b2⟩
  have bd := (Below.refl w2.heap.size w2).alloc (Nat.le_refl _) (.cells #[.int .i64 d.node, .int .i64 d.kind, .int .i64 d.size, .int .i64 d.dur, .bool d.chg] 36)
  have HB2 := Lib.hid (below_two b2 bd)
  have HN := Lib.hid (DescAt.new (T := 36) (n := d.node) (a := d.kind) (z := d.size) (u := d.dur) (c := d.chg) w2)
  have hq2 : w1.heap.size ≤ w2.heap.size := b2.size
  clear b2 bd
  go_wp2_with fail
  refine (hreq _).mono ?_
  rintro e w4 ⟨rfl, rfl⟩
  generalize w2.alloc (.cells #[.int .i64 d.node, .int .i64 d.kind, .int .i64 d.size, .int .i64 d.dur, .bool d.chg] 36) = w3 at HB2 HN ⊢
  have v1 := HV1.out.below HB2.out HV1.out.lt
  have V1 := Lib.hid v1
  have q0 := HN.out.c0; have q1 := HN.out.c1; have q2 := HN.out.c2; have q3 := HN.out.c3; have q4 := HN.out.c4
  have c0 := v1.c0; have c1 := v1.c1; have c2 := v1.c2; have c3 := v1.c3; have c4 := v1.c4
  have f0 := v1.f 0; have f1 := v1.f 1; have f2 := v1.f 2; have f3 := v1.f 3; have f4 := v1.f 4
  clear v1
  go_wp2_with fail
  clear q0 q1 q2 q3 q4 c0 c1 c2 c3 c4 f0 f1 f2 f3 f4
  change bodyPost _ _ _ _ _ (setDesc w3 w.heap.size d.node d.kind d.size d.dur d.chg)
  have VF := V1.out.five d.node d.kind d.size d.dur d.chg
  have BF := below_desc (B := w.heap.size) (w := w3) (Nat.le_refl _) d.node d.kind d.size d.dur d.chg
  have G3 := Lib.hid (grown_low (grown_low HG1.out (HB2.out.mono HG1.out.size)) BF)
  have R3 := Lib.hid ((HRD.out.below HB2.out (by have := HZ1.out; omega)).below BF hlt)
  generalize setDesc w3 w.heap.size d.node d.kind d.size d.dur d.chg = w5 at VF G3 R3 ⊢
  clear BF
  have e0 := VF.c0; have e1 := VF.c1; have e2 := VF.c2; have e3 := VF.c3; have e4 := VF.c4
  exact bodyPost_ret (v := dsVal d) (by simp [dsVal, results, Try.results133, go_sem, e0, e1, e2, e3, e4]) rfl ⟨rfl, R3.out, G3.out⟩
end Go.Proofs.Ytggnoeeaoligdaa
