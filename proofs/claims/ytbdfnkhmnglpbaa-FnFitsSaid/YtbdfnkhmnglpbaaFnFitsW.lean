/-
  The walk of laws.FnFits: at every input it returns true and writes nothing that was there.
-/
import Derived.Test.YtbdfnkhmnglpbaaRows
import Derived.Test.YtbdfnkhmnglpbaaEigD
import Derived.Test.YtbdfnkhmnglpbaaEigC
import Derived.Test.YtbdfnkhmnglpbaaEigE
import Derived.WalkKit
import Derived.ProofKit
import Derived.OpenShut
import Derived.ShutString
import Derived.ChangeOld
import Derived.Below
namespace Go.Proofs.Ytbdfnkhmnglpbaa.fnFits
open Go.ChangeShapes Go.WideShapes Go.ChangeAt Go.RowKit
open Go.ChangeMaps (open_string shut_string)
set_option linter.unusedVariables false


/-- WHAT THE WALK IS TOLD OF A SLICE OF INTEGERS THAT CAME IN: it is nil; or it leads to a row of 'cap' cells, the numbers 'zs' (the first 'len' are its elements, the rest its spare room), each fitting its kind. -/
def IsRow (k : IntKind) (w : World) (a : Option Addr) (len cap : Nat) (zs : List Int) : Prop :=
  (a = none ∧ len = 0 ∧ cap = 0 ∧ zs = []) ∨
  ∃ x, a = some x ∧ len ≤ cap ∧ cap ≤ maxLen ∧ zs.length = cap ∧ (∀ i, i < zs.length → w.cell? (x.add i) = some (.int k (zs.getD i 0))) ∧ ∀ n ∈ zs, (Lit.int k n).wf = true

/-! ### STEP 1: THE WALK: the Go text returns true, AND WRITES NOTHING THAT WAS THERE: 'Below w.heap.size w w'' (Derived/Below.lean: '.refl', '.alloc', '.drew', '.setCell' at a new block, '.trans'). Open each 'IsRow' by 'rcases' AHEAD of 'go_enter'; part every test ahead of the walk. -/
set_option linter.unusedSimpArgs false in set_option linter.unusedVariables false in set_option maxHeartbeats 4000000 in set_option maxRecDepth 100000 in
theorem walk (a0 : Option Addr) (len0 cap0 : Nat) (z0 : List Int) (w : World) (w0 : IsRow .u8 w a0 len0 cap0 z0) :
    Calls Try.prog 7 #[.slice a0 len0 cap0] w fun e w' => e = .returned (.bool true) ∧ Below w.heap.size w w' := by
  have hr := rdB_of_row w0
  clear w0
  generalize List.take len0 z0 = cs at hr
  have HR := Lib.hid hr; clear hr
  by_cases hbig : len0 ≤ 4096
  rotate_left
  · go_enter Try.func7, Try.ntmps7
    go_wp2_with fail
    refine (big_yes _ _ _ _ hbig).mono ?_
    rintro e w' ⟨rfl, rfl⟩
    go_wp2
    go_ret
    exact ⟨rfl, Below.refl _ _⟩
  go_enter Try.func7, Try.ntmps7
  go_wp2_with fail
  refine (big_no _ _ _ _ hbig).mono ?_
  rintro e w' ⟨rfl, rfl⟩
  go_wp2_with fail
  refine (drawFitsDescriptor_any _ _ _ cs _ HR.out (by omega)).mono ?_
  rintro e w1 ⟨n, a, z, u, c, b, q, t, m, r, s, k, ao, cap, d, rfl, o1, hdl, b1⟩
  have H : Held 2 w w1 _ := Held.start.make o1 b1
  clear o1 b1
  have hdl2 : d.length ≤ 1048576 := by omega
  have HDL := Lib.hid hdl2; clear hdl hdl2
  obtain ⟨ov, hO⟩ : ∃ ov, fits ⟨n, a, z, u, c⟩ ⟨b, q, t, m, r, s, k, d⟩ = ov := ⟨_, rfl⟩
  have HO := Lib.hid hO; clear hO
  go_upto_region 4 with fail
  have hal1 : Below w1.heap.size w1 (w1.alloc (.cells #[.int .i64 n, .int .i64 a, .int .i64 z, .int .i64 u, .bool c] 49)) := (Below.refl _ _).alloc (Nat.le_refl _) _
  have hal2 : Below (w1.alloc (.cells #[.int .i64 n, .int .i64 a, .int .i64 z, .int .i64 u, .bool c] 49)).heap.size (w1.alloc (.cells #[.int .i64 n, .int .i64 a, .int .i64 z, .int .i64 u, .bool c] 49)) ((w1.alloc (.cells #[.int .i64 n, .int .i64 a, .int .i64 z, .int .i64 u, .bool c] 49)).alloc (.cells #[.int .i64 b, .int .i64 q, .int .i64 t, .int .i64 m, .int .i64 r, .int .i64 s, .int .i64 k, .slice ao d.length cap] 28)) := (Below.refl _ _).alloc (Nat.le_refl _) _
  have D := DescAt.new (T := 49) (n := n) (a := a) (z := z) (u := u) (c := c) w1
  replace D := D.below hal2 D.lt
  have F := FrameAt.new (T := 28) (a := b) (q := q) (t := t) (m := m) (r := r) (s := s) (k := k) (v := .slice ao d.length cap) (w1.alloc (.cells #[.int .i64 n, .int .i64 a, .int .i64 z, .int .i64 u, .bool c] 49))
  rw [show (w1.alloc (.cells #[.int .i64 n, .int .i64 a, .int .i64 z, .int .i64 u, .bool c] 49)).heap.size = w1.heap.size + 1 from by simp] at F
  replace H := H.still hal1
  replace H := H.still hal2
  clear hal1 hal2
  obtain ⟨bD, hbD⟩ : ∃ x, x = w1.heap.size := ⟨_, rfl⟩
  rw [← hbD] at D F ⊢
  clear hbD
  generalize (w1.alloc (.cells #[.int .i64 n, .int .i64 a, .int .i64 z, .int .i64 u, .bool c] 49)).alloc (.cells #[.int .i64 b, .int .i64 q, .int .i64 t, .int .i64 m, .int .i64 r, .int .i64 s, .int .i64 k, .slice ao d.length cap] 28) = w2 at D F H ⊢
  have dc0 := D.c0
  have dc1 := D.c1
  have dc2 := D.c2
  have dc3 := D.c3
  have dc4 := D.c4
  have dl := D.lt
  have fc0 := F.c0
  have fc1 := F.c1
  have fc2 := F.c2
  have fc3 := F.c3
  have fc4 := F.c4
  have fc5 := F.c5
  have fc6 := F.c6
  have fc7 := F.c7
  have fl := F.lt
  go_wp2_with fail
  clear dc0 dc1 dc2 dc3 dc4 dl fc0 fc1 fc2 fc3 fc4 fc5 fc6 fc7 fl
  refine (fits_any _ _ _ _ _ _ _ _ _ _ _ _ _ _ _ _ (H.rd 0 rfl rfl) HDL.out).mono ?_
  rintro e w3 ⟨rfl, b3⟩
  rw [HO.out]
  replace D := D.below b3 D.lt
  replace F := F.below b3 F.lt
  replace H := H.still b3
  clear b3
  go_wp2_with fail
  refine (drawEmptyFrame_any _ _ _ cs _ (rdB_grow HR.out H.below) (by omega)).mono ?_
  rintro e w4 ⟨x0, x1, x2, x3, x4, y0, y1, y2, y3, y4, rfl, b4⟩
  replace D := D.below b4 D.lt
  replace F := F.below b4 F.lt
  replace H := H.still b4
  clear b4
  obtain ⟨⟨g0, g1, g2, g3, g4, g5, g6, gd⟩, gz, hE⟩ : ∃ f z, emptyFrame ⟨x0, x1, x2, x3, x4⟩ y0 y1 y2 y3 y4 = (f, z) := ⟨_, _, rfl⟩
  have hgl : gd.length ≤ 1048576 := by have h := emptyFrame_data ⟨x0, x1, x2, x3, x4⟩ y0 y1 y2 y3 y4; rw [hE] at h; simp only at h; omega
  have hef := empty_fits (d := ⟨x0, x1, x2, x3, x4⟩) (t := y0) (m := y1) (r := y2) (s := y3) (k := y4)
  rw [hE] at hef
  simp only at hef
  have HEF := Lib.hid hef; have HGL := Lib.hid hgl; have HE := Lib.hid hE; clear hef hgl hE
  go_upto_region 6 with fail
  have hal1 : Below w4.heap.size w4 (w4.alloc (.cells #[.int .i64 x0, .int .i64 x1, .int .i64 x2, .int .i64 x3, .bool x4] 49)) := (Below.refl _ _).alloc (Nat.le_refl _) _
  have hal2 : Below (w4.alloc (.cells #[.int .i64 x0, .int .i64 x1, .int .i64 x2, .int .i64 x3, .bool x4] 49)).heap.size (w4.alloc (.cells #[.int .i64 x0, .int .i64 x1, .int .i64 x2, .int .i64 x3, .bool x4] 49)) ((w4.alloc (.cells #[.int .i64 x0, .int .i64 x1, .int .i64 x2, .int .i64 x3, .bool x4] 49)).alloc (.cells #[.int .i64 y0, .int .i64 y1, .int .i64 y2, .int .i64 y3, .int .i64 y4] 25)) := (Below.refl _ _).alloc (Nat.le_refl _) _
  have X := DescAt.new (T := 49) (n := x0) (a := x1) (z := x2) (u := x3) (c := x4) w4
  replace X := X.below hal2 X.lt
  have S := StateAt.new (T := 25) (t := y0) (m := y1) (r := y2) (s := y3) (k := y4) (w4.alloc (.cells #[.int .i64 x0, .int .i64 x1, .int .i64 x2, .int .i64 x3, .bool x4] 49))
  rw [show (w4.alloc (.cells #[.int .i64 x0, .int .i64 x1, .int .i64 x2, .int .i64 x3, .bool x4] 49)).heap.size = w4.heap.size + 1 from by simp] at S
  replace D := D.below hal1 D.lt
  replace F := F.below hal1 F.lt
  replace H := H.still hal1
  replace D := D.below hal2 D.lt
  replace F := F.below hal2 F.lt
  replace H := H.still hal2
  clear hal1 hal2
  obtain ⟨bX, hbX⟩ : ∃ x, x = w4.heap.size := ⟨_, rfl⟩
  rw [← hbX] at X S ⊢
  clear hbX
  generalize (w4.alloc (.cells #[.int .i64 x0, .int .i64 x1, .int .i64 x2, .int .i64 x3, .bool x4] 49)).alloc (.cells #[.int .i64 y0, .int .i64 y1, .int .i64 y2, .int .i64 y3, .int .i64 y4] 25) = w5 at D F X S H ⊢
  have xc0 := X.c0
  have xc1 := X.c1
  have xc2 := X.c2
  have xc3 := X.c3
  have xc4 := X.c4
  have xl := X.lt
  have sc0 := S.c0
  have sc1 := S.c1
  have sc2 := S.c2
  have sc3 := S.c3
  have sc4 := S.c4
  have sl := S.lt
  go_wp2_with fail
  clear xc0 xc1 xc2 xc3 xc4 xl sc0 sc1 sc2 sc3 sc4 sl
  refine (emptyFrame_any _ _ _ _ _ _ _ _ _ _ _).mono ?_
  intro e w6 h6
  rw [HE.out] at h6
  obtain ⟨p6, c6, rfl, o6, b6⟩ := h6
  simp only at o6 ⊢
  replace D := D.below b6 D.lt
  replace F := F.below b6 F.lt
  replace X := X.below b6 X.lt
  replace S := S.below b6 S.lt
  replace H := H.make o6 b6
  clear o6 b6
  go_upto_region 7 with fail
  have hal : Below w6.heap.size w6 (w6.alloc (.cells #[.int .i64 g0, .int .i64 g1, .int .i64 g2, .int .i64 g3, .int .i64 g4, .int .i64 g5, .int .i64 g6, .slice p6 gd.length c6] 28)) := (Below.refl _ _).alloc (Nat.le_refl _) _
  have E := FrameAt.new (T := 28) (a := g0) (q := g1) (t := g2) (m := g3) (r := g4) (s := g5) (k := g6) (v := .slice p6 gd.length c6) w6
  replace D := D.below hal D.lt
  replace F := F.below hal F.lt
  replace X := X.below hal X.lt
  replace S := S.below hal S.lt
  replace H := H.still hal
  clear hal
  obtain ⟨bE, hbE⟩ : ∃ x, x = w6.heap.size := ⟨_, rfl⟩
  rw [← hbE] at E ⊢
  clear hbE
  generalize w6.alloc (.cells #[.int .i64 g0, .int .i64 g1, .int .i64 g2, .int .i64 g3, .int .i64 g4, .int .i64 g5, .int .i64 g6, .slice p6 gd.length c6] 28) = w7 at D F X S E H ⊢
  have xc0 := X.c0
  have xc1 := X.c1
  have xc2 := X.c2
  have xc3 := X.c3
  have xc4 := X.c4
  have xl := X.lt
  have sc0 := S.c0
  have sc1 := S.c1
  have sc2 := S.c2
  have sc3 := S.c3
  have sc4 := S.c4
  have sl := S.lt
  go_wp2_with fail
  clear xc0 xc1 xc2 xc3 xc4 xl sc0 sc1 sc2 sc3 sc4 sl
  refine (sEmptyFrame_any _ _ _ _ _ _ _ _ _ _ _).mono ?_
  intro e w8 h8
  rw [HE.out] at h8
  obtain ⟨p8, c8, rfl, o8, b8⟩ := h8
  simp only at o8 ⊢
  replace D := D.below b8 D.lt
  replace F := F.below b8 F.lt
  replace X := X.below b8 X.lt
  replace S := S.below b8 S.lt
  replace E := E.below b8 E.lt
  replace H := H.make o8 b8
  clear o8 b8
  go_upto_region 8 with fail
  have hal : Below w8.heap.size w8 (w8.alloc (.cells #[.int .i64 g0, .int .i64 g1, .int .i64 g2, .int .i64 g3, .int .i64 g4, .int .i64 g5, .int .i64 g6, .slice p8 gd.length c8] 28)) := (Below.refl _ _).alloc (Nat.le_refl _) _
  have M := FrameAt.new (T := 28) (a := g0) (q := g1) (t := g2) (m := g3) (r := g4) (s := g5) (k := g6) (v := .slice p8 gd.length c8) w8
  replace D := D.below hal D.lt
  replace F := F.below hal F.lt
  replace X := X.below hal X.lt
  replace S := S.below hal S.lt
  replace E := E.below hal E.lt
  replace H := H.still hal
  clear hal
  obtain ⟨bM, hbM⟩ : ∃ x, x = w8.heap.size := ⟨_, rfl⟩
  rw [← hbM] at M ⊢
  clear hbM
  generalize w8.alloc (.cells #[.int .i64 g0, .int .i64 g1, .int .i64 g2, .int .i64 g3, .int .i64 g4, .int .i64 g5, .int .i64 g6, .slice p8 gd.length c8] 28) = w9 at D F X S E M H ⊢
  have n0 : (ov != ov) = false := by simp
  have n1 : (gz != gz) = false := by simp
  have dc0 := D.c0
  have dc1 := D.c1
  have dc2 := D.c2
  have dc3 := D.c3
  have dc4 := D.c4
  have dl := D.lt
  have fc0 := F.c0
  have fc1 := F.c1
  have fc2 := F.c2
  have fc3 := F.c3
  have fc4 := F.c4
  have fc5 := F.c5
  have fc6 := F.c6
  have fc7 := F.c7
  have fl := F.lt
  go_upto_region 10 with (first | (go_at_call 51; refine (sFits_any _ _ _ _ _ _ _ _ _ _ _ _ _ _ _ _ (H.rd 2 rfl rfl) HDL.out).mono ?_; rintro e w10 ⟨rfl, b10⟩; rw [HO.out]; clear dc0 dc1 dc2 dc3 dc4 dl fc0 fc1 fc2 fc3 fc4 fc5 fc6 fc7 fl; replace D := D.below b10 D.lt; replace F := F.below b10 F.lt; replace X := X.below b10 X.lt; replace S := S.below b10 S.lt; replace E := E.below b10 E.lt; replace M := M.below b10 M.lt; replace H := H.still b10; clear b10; have ec0 := E.c0; have ec1 := E.c1; have ec2 := E.c2; have ec3 := E.c3; have ec4 := E.c4; have ec5 := E.c5; have ec6 := E.c6; have ec7 := E.c7; have el := E.lt; have mc0 := M.c0; have mc1 := M.c1; have mc2 := M.c2; have mc3 := M.c3; have mc4 := M.c4; have mc5 := M.c5; have mc6 := M.c6; have mc7 := M.c7; have ml := M.lt) | (go_at_call 27; clear ec0 ec1 ec2 ec3 ec4 ec5 ec6 ec7 el mc0 mc1 mc2 mc3 mc4 mc5 mc6 mc7 ml; refine (likeFrames_yes _ _ _ _ _ _ _ _ _ _ _ _ _ (H.rd 1 rfl rfl) (H.rd 0 rfl rfl) HGL.out).mono ?_; rintro e w11 ⟨rfl, b11⟩; replace D := D.below b11 D.lt; replace F := F.below b11 F.lt; replace X := X.below b11 X.lt; replace S := S.below b11 S.lt; replace E := E.below b11 E.lt; replace M := M.below b11 M.lt; replace H := H.still b11; clear b11))
  clear n0 n1 M
  by_cases hz : gz = 0
  · subst hz
    replace HEF := Lib.hid (HEF.out rfl)
    cases ov
    · have xc0 := X.c0
      have xc1 := X.c1
      have xc2 := X.c2
      have xc3 := X.c3
      have xc4 := X.c4
      have xl := X.lt
      have ec0 := E.c0
      have ec1 := E.c1
      have ec2 := E.c2
      have ec3 := E.c3
      have ec4 := E.c4
      have ec5 := E.c5
      have ec6 := E.c6
      have ec7 := E.c7
      have el := E.lt
      go_wp2_with (first | (go_at_call 47; refine (fits_any _ _ _ _ _ _ _ _ _ _ _ _ _ _ _ _ (H.rd 1 rfl rfl) HGL.out).mono ?_; rintro e w12 ⟨rfl, b12⟩; rw [HEF.out]; clear xc0 xc1 xc2 xc3 xc4 xl ec0 ec1 ec2 ec3 ec4 ec5 ec6 ec7 el; replace D := D.below b12 D.lt; replace F := F.below b12 F.lt; replace X := X.below b12 X.lt; replace S := S.below b12 S.lt; replace E := E.below b12 E.lt; replace H := H.still b12; clear b12))
      go_ret
      exact ⟨rfl, H.below⟩
    · obtain ⟨hf1, hf2, hf3⟩ := fits_parts HO.out
      simp only at hf2 hf3
      have HIF := Lib.hid hf1; clear hf1
      have t2 : (b == a) = true := by simp [hf2]
      have t3 : ((d.length : Int) == z) = true := by simp [hf3]
      clear hf2 hf3
      have xc0 := X.c0
      have xc1 := X.c1
      have xc2 := X.c2
      have xc3 := X.c3
      have xc4 := X.c4
      have xl := X.lt
      have ec0 := E.c0
      have ec1 := E.c1
      have ec2 := E.c2
      have ec3 := E.c3
      have ec4 := E.c4
      have ec5 := E.c5
      have ec6 := E.c6
      have ec7 := E.c7
      have el := E.lt
      go_wp2_with (first | (go_at_call 47; refine (fits_any _ _ _ _ _ _ _ _ _ _ _ _ _ _ _ _ (H.rd 1 rfl rfl) HGL.out).mono ?_; rintro e w12 ⟨rfl, b12⟩; rw [HEF.out]; clear xc0 xc1 xc2 xc3 xc4 xl ec0 ec1 ec2 ec3 ec4 ec5 ec6 ec7 el; replace D := D.below b12 D.lt; replace F := F.below b12 F.lt; replace X := X.below b12 X.lt; replace S := S.below b12 S.lt; replace E := E.below b12 E.lt; replace H := H.still b12; clear b12; have dc0 := D.c0; have dc1 := D.c1; have dc2 := D.c2; have dc3 := D.c3; have dc4 := D.c4; have dl := D.lt; have fc0 := F.c0; have fc1 := F.c1; have fc2 := F.c2; have fc3 := F.c3; have fc4 := F.c4; have fc5 := F.c5; have fc6 := F.c6; have fc7 := F.c7; have fl := F.lt) | (go_at_call 52; refine (isFrame_any _ _ _ _ _ _ _ _ _ _ _ (H.rd 2 rfl rfl) HDL.out).mono ?_; rintro e w13 ⟨rfl, b13⟩; rw [HIF.out]; clear dc0 dc1 dc2 dc3 dc4 dl fc0 fc1 fc2 fc3 fc4 fc5 fc6 fc7 fl; replace D := D.below b13 D.lt; replace F := F.below b13 F.lt; replace X := X.below b13 X.lt; replace S := S.below b13 S.lt; replace E := E.below b13 E.lt; replace H := H.still b13; clear b13; have dc0 := D.c0; have dc1 := D.c1; have dc2 := D.c2; have dc3 := D.c3; have dc4 := D.c4; have dl := D.lt; have fc0 := F.c0; have fc1 := F.c1; have fc2 := F.c2; have fc3 := F.c3; have fc4 := F.c4; have fc5 := F.c5; have fc6 := F.c6; have fc7 := F.c7; have fl := F.lt))
      go_ret
      exact ⟨rfl, H.below⟩
  · have tz : (gz == 0) = false := by simp [hz]
    cases ov
    · go_wp2_with fail
      go_ret
      exact ⟨rfl, H.below⟩
    · obtain ⟨hf1, hf2, hf3⟩ := fits_parts HO.out
      simp only at hf2 hf3
      have HIF := Lib.hid hf1; clear hf1
      have t2 : (b == a) = true := by simp [hf2]
      have t3 : ((d.length : Int) == z) = true := by simp [hf3]
      clear hf2 hf3
      have dc0 := D.c0
      have dc1 := D.c1
      have dc2 := D.c2
      have dc3 := D.c3
      have dc4 := D.c4
      have dl := D.lt
      have fc0 := F.c0
      have fc1 := F.c1
      have fc2 := F.c2
      have fc3 := F.c3
      have fc4 := F.c4
      have fc5 := F.c5
      have fc6 := F.c6
      have fc7 := F.c7
      have fl := F.lt
      go_wp2_with (first | (go_at_call 52; refine (isFrame_any _ _ _ _ _ _ _ _ _ _ _ (H.rd 2 rfl rfl) HDL.out).mono ?_; rintro e w13 ⟨rfl, b13⟩; rw [HIF.out]; clear dc0 dc1 dc2 dc3 dc4 dl fc0 fc1 fc2 fc3 fc4 fc5 fc6 fc7 fl; replace D := D.below b13 D.lt; replace F := F.below b13 F.lt; replace X := X.below b13 X.lt; replace S := S.below b13 S.lt; replace E := E.below b13 E.lt; replace H := H.still b13; clear b13; have dc0 := D.c0; have dc1 := D.c1; have dc2 := D.c2; have dc3 := D.c3; have dc4 := D.c4; have dl := D.lt; have fc0 := F.c0; have fc1 := F.c1; have fc2 := F.c2; have fc3 := F.c3; have fc4 := F.c4; have fc5 := F.c5; have fc6 := F.c6; have fc7 := F.c7; have fl := F.lt))
      go_ret
      exact ⟨rfl, H.below⟩


end Go.Proofs.Ytbdfnkhmnglpbaa.fnFits
