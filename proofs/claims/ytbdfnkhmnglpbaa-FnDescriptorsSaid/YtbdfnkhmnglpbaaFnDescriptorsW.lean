/-
  The walk of laws.FnDescriptors: at every input it returns true and writes nothing that was there.
-/
import Derived.Test.YtbdfnkhmnglpbaaRows
import Derived.Test.YtbdfnkhmnglpbaaEigD
import Derived.Test.YtbdfnkhmnglpbaaEigB
import Derived.Test.YtbdfnkhmnglpbaaEigE
import Derived.Test.YtbdfnkhmnglpbaaBase
import Derived.WalkKit
import Derived.ProofKit
import Derived.OpenShut
import Derived.ShutString
import Derived.ChangeOld
import Derived.Below
namespace Go.Proofs.Ytbdfnkhmnglpbaa.fnDescriptors
open Go.ChangeShapes Go.WideShapes Go.ChangeAt Go.RowKit
open Go.ChangeMaps (open_string shut_string)
set_option linter.unusedVariables false


/-- WHAT THE WALK IS TOLD OF A SLICE OF INTEGERS THAT CAME IN: it is nil; or it leads to a row of 'cap' cells, the numbers 'zs' (the first 'len' are its elements, the rest its spare room), each fitting its kind. -/
def IsRow (k : IntKind) (w : World) (a : Option Addr) (len cap : Nat) (zs : List Int) : Prop :=
  (a = none ∧ len = 0 ∧ cap = 0 ∧ zs = []) ∨
  ∃ x, a = some x ∧ len ≤ cap ∧ cap ≤ maxLen ∧ zs.length = cap ∧ (∀ i, i < zs.length → w.cell? (x.add i) = some (.int k (zs.getD i 0))) ∧ ∀ n ∈ zs, (Lit.int k n).wf = true

/-! ### STEP 1: THE WALK: the Go text returns true, AND WRITES NOTHING THAT WAS THERE: 'Below w.heap.size w w'' (Derived/Below.lean: '.refl', '.alloc', '.drew', '.setCell' at a new block, '.trans'). Open each 'IsRow' by 'rcases' AHEAD of 'go_enter'; part every test ahead of the walk. -/
set_option linter.unusedSimpArgs false in set_option linter.unusedVariables false in set_option maxHeartbeats 4000000 in set_option maxRecDepth 100000 in
theorem walk (a0 : Option Addr) (len0 cap0 : Nat) (z0 : List Int) (w : World) (w0 : IsRow .u8 w a0 len0 cap0 z0) :
    Calls Try.prog 6 #[.slice a0 len0 cap0] w fun e w' => e = .returned (.bool true) ∧ Below w.heap.size w w' := by
  have hr := rdB_of_row w0
  clear w0
  generalize List.take len0 z0 = cs at hr
  have HR := Lib.hid hr; clear hr
  by_cases hbig : len0 ≤ 4096
  rotate_left
  · go_enter Try.func6, Try.ntmps6
    go_wp2_with fail
    refine (big_yes _ _ _ _ hbig).mono ?_
    rintro e w' ⟨rfl, rfl⟩
    go_wp2
    go_ret
    exact ⟨rfl, Below.refl _ _⟩
  go_enter Try.func6, Try.ntmps6
  go_wp2_with fail
  refine (big_no _ _ _ _ hbig).mono ?_
  rintro e w' ⟨rfl, rfl⟩
  go_wp2_with fail
  refine (drawDescToBytes_any _ _ _ cs _ HR.out (by omega)).mono ?_
  rintro e w1 ⟨n, a, z, u, c, rfl, b1⟩
  have H : Held 2 w w1 [] := Held.start.still b1
  clear b1
  obtain ⟨r0, r1, hB⟩ : ∃ r0 r1, descToBytes ⟨n, a, z, u, c⟩ = (r0, r1) := ⟨_, _, rfl⟩
  obtain ⟨q0, q1, hP⟩ : ∃ q0 q1, pauseOf ⟨n, a, z, u, c⟩ = (q0, q1) := ⟨_, _, rfl⟩
  obtain ⟨iv, hI⟩ : ∃ iv, isDesc ⟨n, a, z, u, c⟩ = iv := ⟨_, rfl⟩
  have hrl : r0.length ≤ 5 := by have h := descToBytes_len ⟨n, a, z, u, c⟩; rw [hB] at h; exact h
  have HRL := Lib.hid hrl; clear hrl
  have HB := Lib.hid hB; have HP := Lib.hid hP; have HI := Lib.hid hI; clear hB hP hI
  go_upto_region 4 with fail
  have hal : Below w1.heap.size w1 (w1.alloc (.cells #[.int .i64 n, .int .i64 a, .int .i64 z, .int .i64 u, .bool c] 49)) := (Below.refl _ _).alloc (Nat.le_refl _) _
  have X := DescAt.new (T := 49) (n := n) (a := a) (z := z) (u := u) (c := c) w1
  replace H := H.still hal
  clear hal
  obtain ⟨bX, hbX⟩ : ∃ b, b = w1.heap.size := ⟨_, rfl⟩
  rw [← hbX] at X ⊢
  clear hbX
  generalize w1.alloc (.cells #[.int .i64 n, .int .i64 a, .int .i64 z, .int .i64 u, .bool c] 49) = w2 at X H ⊢
  have xc0 := X.c0
  have xc1 := X.c1
  have xc2 := X.c2
  have xc3 := X.c3
  have xc4 := X.c4
  have xl := X.lt
  go_wp2_with fail
  clear xc0 xc1 xc2 xc3 xc4 xl
  refine (descToBytes_any _ _ _ _ _ _).mono ?_
  rintro e w3 m3
  rw [HB.out] at m3
  change Makes2 2 _ r0 r1 _ _ at m3
  obtain ⟨p3, c3, rfl, o3, -, b3⟩ := m3.get
  clear m3
  replace X := X.below b3 X.lt
  replace H := H.make o3 b3
  clear o3 b3
  have xc0 := X.c0
  have xc1 := X.c1
  have xc2 := X.c2
  have xc3 := X.c3
  have xc4 := X.c4
  have xl := X.lt
  go_wp2_with fail
  clear xc0 xc1 xc2 xc3 xc4 xl
  refine (sDescToBytes_any _ _ _ _ _ _).mono ?_
  rintro e w4 m4
  rw [HB.out] at m4
  change Makes2 2 _ r0 r1 _ _ at m4
  obtain ⟨p4, c4, rfl, o4, -, b4⟩ := m4.get
  clear m4
  replace X := X.below b4 X.lt
  replace H := H.make o4 b4
  clear o4 b4
  have xc0 := X.c0
  have xc1 := X.c1
  have xc2 := X.c2
  have xc3 := X.c3
  have xc4 := X.c4
  have xl := X.lt
  go_wp2_with fail
  clear xc0 xc1 xc2 xc3 xc4 xl
  refine (pauseOf_any _ _ _ _ _ _).mono ?_
  rintro e w5 ⟨rfl, b5⟩
  rw [HP.out]
  replace X := X.below b5 X.lt
  replace H := H.still b5
  clear b5
  have xc0 := X.c0
  have xc1 := X.c1
  have xc2 := X.c2
  have xc3 := X.c3
  have xc4 := X.c4
  have xl := X.lt
  go_wp2_with fail
  clear xc0 xc1 xc2 xc3 xc4 xl
  refine (sPauseOf_any _ _ _ _ _ _).mono ?_
  rintro e w6 ⟨rfl, b6⟩
  rw [HP.out]
  replace X := X.below b6 X.lt
  replace H := H.still b6
  clear b6
  go_wp2_with fail
  refine (drawDescFromBytes_any _ _ _ cs _ (rdB_grow HR.out H.below) (by omega)).mono ?_
  rintro e w7 ⟨ao, cap, xs, rfl, rx, hxl, -, -, b7⟩
  replace X := X.below b7 X.lt
  replace H := H.still b7
  clear b7
  have RX := Lib.hid rx; clear rx
  have hxl2 : xs.length ≤ 9223372036854775807 := by omega
  obtain ⟨⟨y0, y1, y2, y3, y4⟩, y5, hG⟩ : ∃ f z, descFrom xs = (f, z) := ⟨_, _, rfl⟩
  have hg1 := fun (W : World) (h : Rd W ao xs.length xs) => descFromBytes_any ao xs.length cap xs W h hxl2
  have hg2 := fun (W : World) (h : Rd W ao xs.length xs) => sDescFromBytes_any ao xs.length cap xs W h hxl2
  rw [hG] at hg1 hg2
  simp only at hg1 hg2
  have HG1 := Lib.hid hg1; have HG2 := Lib.hid hg2; clear hg1 hg2 hG
  go_wp2_with fail
  refine (HG1.out _ RX.out).mono ?_
  rintro e w8 ⟨rfl, b8⟩
  replace RX := Lib.hid (RX.out.below b8)
  replace X := X.below b8 X.lt
  replace H := H.still b8
  clear b8
  go_upto_region 10 with fail
  have hal : Below w8.heap.size w8 (w8.alloc (.cells #[.int .i64 y0, .int .i64 y1, .int .i64 y2, .int .i64 y3, .bool y4] 49)) := (Below.refl _ _).alloc (Nat.le_refl _) _
  have Y := DescAt.new (T := 49) (n := y0) (a := y1) (z := y2) (u := y3) (c := y4) w8
  replace RX := Lib.hid (RX.out.below hal)
  replace X := X.below hal X.lt
  replace H := H.still hal
  clear hal
  obtain ⟨bY, hbY⟩ : ∃ b, b = w8.heap.size := ⟨_, rfl⟩
  rw [← hbY] at Y ⊢
  clear hbY
  generalize w8.alloc (.cells #[.int .i64 y0, .int .i64 y1, .int .i64 y2, .int .i64 y3, .bool y4] 49) = w9 at X Y H RX ⊢
  go_wp2_with fail
  refine (HG2.out _ RX.out).mono ?_
  rintro e w10 ⟨rfl, b10⟩
  replace RX := Lib.hid (RX.out.below b10)
  replace X := X.below b10 X.lt
  replace Y := Y.below b10 Y.lt
  replace H := H.still b10
  clear b10
  go_upto_region 11 with fail
  have hal : Below w10.heap.size w10 (w10.alloc (.cells #[.int .i64 y0, .int .i64 y1, .int .i64 y2, .int .i64 y3, .bool y4] 49)) := (Below.refl _ _).alloc (Nat.le_refl _) _
  have Z := DescAt.new (T := 49) (n := y0) (a := y1) (z := y2) (u := y3) (c := y4) w10
  replace RX := Lib.hid (RX.out.below hal)
  replace X := X.below hal X.lt
  replace Y := Y.below hal Y.lt
  replace H := H.still hal
  clear hal
  obtain ⟨bZ, hbZ⟩ : ∃ b, b = w10.heap.size := ⟨_, rfl⟩
  rw [← hbZ] at Z ⊢
  clear hbZ
  generalize w10.alloc (.cells #[.int .i64 y0, .int .i64 y1, .int .i64 y2, .int .i64 y3, .bool y4] 49) = w11 at X Y Z H RX ⊢
  clear RX hxl hxl2 HG1 HG2
  have n0 : (r1 != r1) = false := by simp
  have n1 : (q1 != q1) = false := by simp
  have n2 : (q0 != q0) = false := by simp
  have n3 : (y5 != y5) = false := by simp
  have n4 : (iv != iv) = false := by simp
  have n5 := fun w => desc_neq_self y0 y1 y2 y3 y4 w
  replace X := X.below (Below.drew (Below.refl _ _)) X.lt
  replace Y := Y.below (Below.drew (Below.refl _ _)) Y.lt
  replace Z := Z.below (Below.drew (Below.refl _ _)) Z.lt
  replace H := H.still (Below.drew (Below.refl _ _))
  refine wp_region_held_drew (S := fun w' => (w'.cell? ⟨bX, 0, none⟩ = some (.int .i64 n) ∧ w'.cell? ⟨bX, 1, none⟩ = some (.int .i64 a) ∧ w'.cell? ⟨bX, 2, none⟩ = some (.int .i64 z) ∧ w'.cell? ⟨bX, 3, none⟩ = some (.int .i64 u) ∧ w'.cell? ⟨bX, 4, none⟩ = some (.bool c)) ∧ (w'.cell? ⟨bY, 0, none⟩ = some (.int .i64 y0) ∧ w'.cell? ⟨bY, 1, none⟩ = some (.int .i64 y1) ∧ w'.cell? ⟨bY, 2, none⟩ = some (.int .i64 y2) ∧ w'.cell? ⟨bY, 3, none⟩ = some (.int .i64 y3) ∧ w'.cell? ⟨bY, 4, none⟩ = some (.bool y4)) ∧ (w'.cell? ⟨bZ, 0, none⟩ = some (.int .i64 y0) ∧ w'.cell? ⟨bZ, 1, none⟩ = some (.int .i64 y1) ∧ w'.cell? ⟨bZ, 2, none⟩ = some (.int .i64 y2) ∧ w'.cell? ⟨bZ, 3, none⟩ = some (.int .i64 y3) ∧ w'.cell? ⟨bZ, 4, none⟩ = some (.bool y4))) (by kernel_rfl) (⟨desc_cells X, desc_cells Y, desc_cells Z⟩) (fun hHeld => ?_)
  refine wpAnyH_take (i := 0) (v := ?_) rfl (by kernel_rfl) (by kernel_rfl) (by kernel_rfl) (fun _ _ _ h => h) (Or.inl ⟨by rfl, ?_⟩) (by assumption) ?_
  rotate_left
  · (intro w hSw; (try dsimp only at hSw); go_simp; (try with_reducible rfl))
  try simp only [List.getElem_toArray, List.getElem_cons_succ, List.getElem_cons_zero, Act.put, List.setIfInBounds_toArray, List.set_cons_zero, List.set_cons_succ]
  refine wpAnyH_take (i := 1) (v := ?_) rfl (by kernel_rfl) (by kernel_rfl) (by kernel_rfl) (fun _ _ _ h => h) (Or.inl ⟨by rfl, ?_⟩) (by assumption) ?_
  rotate_left
  · (intro w hSw; (try dsimp only at hSw); go_simp; (try with_reducible rfl))
  try simp only [List.getElem_toArray, List.getElem_cons_succ, List.getElem_cons_zero, Act.put, List.setIfInBounds_toArray, List.set_cons_zero, List.set_cons_succ]
  refine wpAnyH_take (i := 2) (v := ?_) rfl (by kernel_rfl) (by kernel_rfl) (by kernel_rfl) (fun _ _ _ h => h) (Or.inl ⟨by rfl, ?_⟩) (by assumption) ?_
  rotate_left
  · (intro w hSw; (try dsimp only at hSw); go_simp; (try with_reducible rfl))
  try simp only [List.getElem_toArray, List.getElem_cons_succ, List.getElem_cons_zero, Act.put, List.setIfInBounds_toArray, List.set_cons_zero, List.set_cons_succ]
  refine wpAnyH_take (i := 3) (v := ?_) rfl (by kernel_rfl) (by kernel_rfl) (by kernel_rfl) (fun _ _ _ h => h) (Or.inl ⟨by rfl, ?_⟩) (by assumption) ?_
  rotate_left
  · (intro w hSw; (try dsimp only at hSw); go_simp; (try with_reducible rfl))
  try simp only [List.getElem_toArray, List.getElem_cons_succ, List.getElem_cons_zero, Act.put, List.setIfInBounds_toArray, List.set_cons_zero, List.set_cons_succ]
  refine wpAnyH_take (i := 4) (v := ?_) rfl (by kernel_rfl) (by kernel_rfl) (by kernel_rfl) (fun _ _ _ h => h) (Or.inl ⟨by rfl, ?_⟩) (by assumption) ?_
  rotate_left
  · (intro w hSw; (try dsimp only at hSw); go_simp; (try with_reducible rfl))
  try simp only [List.getElem_toArray, List.getElem_cons_succ, List.getElem_cons_zero, Act.put, List.setIfInBounds_toArray, List.set_cons_zero, List.set_cons_succ]
  refine wpAnyH_take (i := 5) (v := ?_) rfl (by kernel_rfl) (by kernel_rfl) (by kernel_rfl) (fun _ _ _ h => h) (Or.inl ⟨by rfl, ?_⟩) (by assumption) ?_
  rotate_left
  · (intro w hSw; (try dsimp only at hSw); go_simp; (try with_reducible rfl))
  try simp only [List.getElem_toArray, List.getElem_cons_succ, List.getElem_cons_zero, Act.put, List.setIfInBounds_toArray, List.set_cons_zero, List.set_cons_succ]
  refine wpAnyH_ready (rs := [6]) (by kernel_rfl) (by simp) (AllReadyH.cons rfl (fun K hK => ?_) AllReadyH.nil)
  go_simp
  refine (like_yes _ _ _ _ _ _ _ _ (H.rd 1 rfl rfl) (H.rd 0 rfl rfl) (by have := HRL.out; omega)).mono ?_
  rintro e w12 ⟨rfl, b12⟩
  replace X := X.below b12 X.lt
  replace Y := Y.below b12 Y.lt
  replace Z := Z.below b12 Z.lt
  replace H := H.still b12
  clear b12
  go_wp2_with fail
  refine hK.out _ _ ?_ (fun hHeld => ?_)
  · exact ⟨desc_cells X, desc_cells Y, desc_cells Z⟩
  clear hK K
  try simp only [List.getElem_toArray, List.getElem_cons_succ, List.getElem_cons_zero, Act.put, List.setIfInBounds_toArray, List.set_cons_zero, List.set_cons_succ]
  refine wpAnyH_take (i := 7) (v := ?_) rfl (by kernel_rfl) (by kernel_rfl) (by kernel_rfl) (fun _ _ _ h => h) (Or.inl ⟨by rfl, ?_⟩) (by assumption) ?_
  rotate_left
  · (intro w hSw; (try dsimp only at hSw); go_simp; (try with_reducible rfl))
  try simp only [List.getElem_toArray, List.getElem_cons_succ, List.getElem_cons_zero, Act.put, List.setIfInBounds_toArray, List.set_cons_zero, List.set_cons_succ]
  refine wpAnyH_take (i := 8) (v := ?_) rfl (by kernel_rfl) (by kernel_rfl) (by kernel_rfl) (fun _ _ _ h => h) (Or.inl ⟨by rfl, ?_⟩) (by assumption) ?_
  rotate_left
  · (intro w hSw; (try dsimp only at hSw); go_simp; (try with_reducible rfl))
  try simp only [List.getElem_toArray, List.getElem_cons_succ, List.getElem_cons_zero, Act.put, List.setIfInBounds_toArray, List.set_cons_zero, List.set_cons_succ]
  refine wpAnyH_take (i := 9) (v := ?_) rfl (by kernel_rfl) (by kernel_rfl) (by kernel_rfl) (fun _ _ _ h => h) (Or.inl ⟨by rfl, ?_⟩) (by assumption) ?_
  rotate_left
  · (intro w hSw; (try dsimp only at hSw); go_simp; (try with_reducible rfl))
  try simp only [List.getElem_toArray, List.getElem_cons_succ, List.getElem_cons_zero, Act.put, List.setIfInBounds_toArray, List.set_cons_zero, List.set_cons_succ]
  refine wpAnyH_take (i := 10) (v := ?_) rfl (by kernel_rfl) (by kernel_rfl) (by kernel_rfl) (fun _ _ _ h => h) (Or.inl ⟨by rfl, ?_⟩) (by assumption) ?_
  rotate_left
  · (intro w hSw; (try dsimp only at hSw); go_simp; (try with_reducible rfl))
  try simp only [List.getElem_toArray, List.getElem_cons_succ, List.getElem_cons_zero, Act.put, List.setIfInBounds_toArray, List.set_cons_zero, List.set_cons_succ]
  refine wpAnyH_take (i := 11) (v := ?_) rfl (by kernel_rfl) (by kernel_rfl) (by kernel_rfl) (fun _ _ _ h => h) (Or.inl ⟨by rfl, ?_⟩) (by assumption) ?_
  rotate_left
  · (intro w hSw; (try dsimp only at hSw); go_simp; (try with_reducible rfl))
  try simp only [List.getElem_toArray, List.getElem_cons_succ, List.getElem_cons_zero, Act.put, List.setIfInBounds_toArray, List.set_cons_zero, List.set_cons_succ]
  refine wpAnyH_take (i := 12) (v := ?_) rfl (by kernel_rfl) (by kernel_rfl) (by kernel_rfl) (fun _ _ _ h => h) (Or.inl ⟨by rfl, ?_⟩) (by assumption) ?_
  rotate_left
  · (intro w hSw; (try dsimp only at hSw); go_simp; (try with_reducible rfl))
  try simp only [List.getElem_toArray, List.getElem_cons_succ, List.getElem_cons_zero, Act.put, List.setIfInBounds_toArray, List.set_cons_zero, List.set_cons_succ]
  refine wpAnyH_take (i := 13) (v := ?_) rfl (by kernel_rfl) (by kernel_rfl) (by kernel_rfl) (fun _ _ _ h => h) (Or.inl ⟨by rfl, ?_⟩) (by assumption) ?_
  rotate_left
  · (intro w hSw; (try dsimp only at hSw); go_simp; (try with_reducible rfl))
  try simp only [List.getElem_toArray, List.getElem_cons_succ, List.getElem_cons_zero, Act.put, List.setIfInBounds_toArray, List.set_cons_zero, List.set_cons_succ]
  refine wpAnyH_take (i := 14) (v := ?_) rfl (by kernel_rfl) (by kernel_rfl) (by kernel_rfl) (fun _ _ _ h => h) (Or.inl ⟨by rfl, ?_⟩) (by assumption) ?_
  rotate_left
  · (intro w hSw; (try dsimp only at hSw); go_simp; (try with_reducible rfl))
  try simp only [List.getElem_toArray, List.getElem_cons_succ, List.getElem_cons_zero, Act.put, List.setIfInBounds_toArray, List.set_cons_zero, List.set_cons_succ]
  refine wpAnyH_take (i := 15) (v := ?_) rfl (by kernel_rfl) (by kernel_rfl) (by kernel_rfl) (fun _ _ _ h => h) (Or.inl ⟨by rfl, ?_⟩) (by assumption) ?_
  rotate_left
  · (intro w hSw; (try dsimp only at hSw); go_simp; (try with_reducible rfl))
  try simp only [List.getElem_toArray, List.getElem_cons_succ, List.getElem_cons_zero, Act.put, List.setIfInBounds_toArray, List.set_cons_zero, List.set_cons_succ]
  refine wpAnyH_take (i := 16) (v := ?_) rfl (by kernel_rfl) (by kernel_rfl) (by kernel_rfl) (fun _ _ _ h => h) (Or.inl ⟨by rfl, ?_⟩) (by assumption) ?_
  rotate_left
  · (intro w hSw; (try dsimp only at hSw); go_simp; (try with_reducible rfl))
  try simp only [List.getElem_toArray, List.getElem_cons_succ, List.getElem_cons_zero, Act.put, List.setIfInBounds_toArray, List.set_cons_zero, List.set_cons_succ]
  refine wpAnyH_take (i := 17) (v := ?_) rfl (by kernel_rfl) (by kernel_rfl) (by kernel_rfl) (fun _ _ _ h => h) (Or.inl ⟨by rfl, ?_⟩) (by assumption) ?_
  rotate_left
  · (intro w hSw; (try dsimp only at hSw); go_simp; (try with_reducible rfl))
  try simp only [List.getElem_toArray, List.getElem_cons_succ, List.getElem_cons_zero, Act.put, List.setIfInBounds_toArray, List.set_cons_zero, List.set_cons_succ]
  refine wpAnyH_take (i := 18) (v := ?_) rfl (by kernel_rfl) (by kernel_rfl) (by kernel_rfl) (fun _ _ _ h => h) (Or.inl ⟨by rfl, ?_⟩) (by assumption) ?_
  rotate_left
  · (intro w hSw; (try dsimp only at hSw); go_simp; (try with_reducible rfl))
  try simp only [List.getElem_toArray, List.getElem_cons_succ, List.getElem_cons_zero, Act.put, List.setIfInBounds_toArray, List.set_cons_zero, List.set_cons_succ]
  refine wpAnyH_take (i := 19) (v := ?_) rfl (by kernel_rfl) (by kernel_rfl) (by kernel_rfl) (fun _ _ _ h => h) (Or.inl ⟨by rfl, ?_⟩) (by assumption) ?_
  rotate_left
  · (intro w hSw; (try dsimp only at hSw); go_simp; (try with_reducible rfl))
  try simp only [List.getElem_toArray, List.getElem_cons_succ, List.getElem_cons_zero, Act.put, List.setIfInBounds_toArray, List.set_cons_zero, List.set_cons_succ]
  refine wpAnyH_take (i := 20) (v := ?_) rfl (by kernel_rfl) (by kernel_rfl) (by kernel_rfl) (fun _ _ _ h => h) (Or.inl ⟨by rfl, ?_⟩) (by assumption) ?_
  rotate_left
  · (intro w hSw; (try dsimp only at hSw); go_simp; (try with_reducible rfl))
  try simp only [List.getElem_toArray, List.getElem_cons_succ, List.getElem_cons_zero, Act.put, List.setIfInBounds_toArray, List.set_cons_zero, List.set_cons_succ]
  refine wpAnyH_take (i := 21) (v := ?_) rfl (by kernel_rfl) (by kernel_rfl) (by kernel_rfl) (fun _ _ _ h => h) (Or.inl ⟨by rfl, ?_⟩) (by assumption) ?_
  rotate_left
  · (intro w hSw; (try dsimp only at hSw); go_simp; (try with_reducible rfl))
  try simp only [List.getElem_toArray, List.getElem_cons_succ, List.getElem_cons_zero, Act.put, List.setIfInBounds_toArray, List.set_cons_zero, List.set_cons_succ]
  refine wpAnyH_take (i := 22) (v := ?_) rfl (by kernel_rfl) (by kernel_rfl) (by kernel_rfl) (fun _ _ _ h => h) (Or.inl ⟨by rfl, ?_⟩) (by assumption) ?_
  rotate_left
  · (intro w hSw; (try dsimp only at hSw); go_simp; (try with_reducible rfl))
  try simp only [List.getElem_toArray, List.getElem_cons_succ, List.getElem_cons_zero, Act.put, List.setIfInBounds_toArray, List.set_cons_zero, List.set_cons_succ]
  refine wpAnyH_take (i := 23) (v := ?_) rfl (by kernel_rfl) (by kernel_rfl) (by kernel_rfl) (fun _ _ _ h => h) (Or.inl ⟨by rfl, ?_⟩) (by assumption) ?_
  rotate_left
  · (intro w hSw; (try dsimp only at hSw); go_simp; (try with_reducible rfl))
  try simp only [List.getElem_toArray, List.getElem_cons_succ, List.getElem_cons_zero, Act.put, List.setIfInBounds_toArray, List.set_cons_zero, List.set_cons_succ]
  refine wpAnyH_take (i := 24) (v := ?_) rfl (by kernel_rfl) (by kernel_rfl) (by kernel_rfl) (fun _ _ _ h => h) (Or.inl ⟨by rfl, ?_⟩) (by assumption) ?_
  rotate_left
  · (intro w hSw; (try dsimp only at hSw); go_simp; (try with_reducible rfl))
  try simp only [List.getElem_toArray, List.getElem_cons_succ, List.getElem_cons_zero, Act.put, List.setIfInBounds_toArray, List.set_cons_zero, List.set_cons_succ]
  refine wpAnyH_take (i := 25) (v := ?_) rfl (by kernel_rfl) (by kernel_rfl) (by kernel_rfl) (fun _ _ _ h => h) (Or.inl ⟨by rfl, ?_⟩) (by assumption) ?_
  rotate_left
  · (intro w hSw; (try dsimp only at hSw); go_simp; (try with_reducible rfl))
  try simp only [List.getElem_toArray, List.getElem_cons_succ, List.getElem_cons_zero, Act.put, List.setIfInBounds_toArray, List.set_cons_zero, List.set_cons_succ]
  refine wpAnyH_take (i := 26) (v := ?_) rfl (by kernel_rfl) (by kernel_rfl) (by kernel_rfl) (fun _ _ _ h => h) (Or.inl ⟨by rfl, ?_⟩) (by assumption) ?_
  rotate_left
  · (intro w hSw; (try dsimp only at hSw); go_simp; (try with_reducible rfl))
  try simp only [List.getElem_toArray, List.getElem_cons_succ, List.getElem_cons_zero, Act.put, List.setIfInBounds_toArray, List.set_cons_zero, List.set_cons_succ]
  refine wpAnyH_take (i := 27) (v := ?_) rfl (by kernel_rfl) (by kernel_rfl) (by kernel_rfl) (fun _ _ _ h => h) (Or.inl ⟨by rfl, ?_⟩) (by assumption) ?_
  rotate_left
  · (intro w hSw; (try dsimp only at hSw); go_simp; (try with_reducible rfl))
  try simp only [List.getElem_toArray, List.getElem_cons_succ, List.getElem_cons_zero, Act.put, List.setIfInBounds_toArray, List.set_cons_zero, List.set_cons_succ]
  refine wpAnyH_take (i := 28) (v := ?_) rfl (by kernel_rfl) (by kernel_rfl) (by kernel_rfl) (fun _ _ _ h => h) (Or.inl ⟨by rfl, ?_⟩) (by assumption) ?_
  rotate_left
  · (intro w hSw; (try dsimp only at hSw); go_simp; (try with_reducible rfl))
  try simp only [List.getElem_toArray, List.getElem_cons_succ, List.getElem_cons_zero, Act.put, List.setIfInBounds_toArray, List.set_cons_zero, List.set_cons_succ]
  refine wpAnyH_take (i := 29) (v := ?_) rfl (by kernel_rfl) (by kernel_rfl) (by kernel_rfl) (fun _ _ _ h => h) (Or.inl ⟨by rfl, ?_⟩) (by assumption) ?_
  rotate_left
  · (intro w hSw; (try dsimp only at hSw); go_simp; (try with_reducible rfl))
  try simp only [List.getElem_toArray, List.getElem_cons_succ, List.getElem_cons_zero, Act.put, List.setIfInBounds_toArray, List.set_cons_zero, List.set_cons_succ]
  refine wpAnyH_take (i := 30) (v := ?_) rfl (by kernel_rfl) (by kernel_rfl) (by kernel_rfl) (fun _ _ _ h => h) (Or.inl ⟨by rfl, ?_⟩) (by assumption) ?_
  rotate_left
  · (intro w hSw; (try dsimp only at hSw); go_simp; (try with_reducible rfl))
  try simp only [List.getElem_toArray, List.getElem_cons_succ, List.getElem_cons_zero, Act.put, List.setIfInBounds_toArray, List.set_cons_zero, List.set_cons_succ]
  refine wpAnyH_take (i := 32) (v := ?_) rfl (by kernel_rfl) (by kernel_rfl) (by kernel_rfl) (fun _ _ _ h => h) (Or.inl ⟨by rfl, ?_⟩) (by assumption) ?_
  rotate_left
  · (intro w hSw; (try dsimp only at hSw); go_simp; (try with_reducible rfl))
  try simp only [List.getElem_toArray, List.getElem_cons_succ, List.getElem_cons_zero, Act.put, List.setIfInBounds_toArray, List.set_cons_zero, List.set_cons_succ]
  refine wpAnyH_ready (rs := [31]) (by kernel_rfl) (by simp) (AllReadyH.cons rfl (fun K hK => ?_) AllReadyH.nil)
  go_simp
  refine (isDescriptor_any _ _ _ _ _ _).mono ?_
  rintro e w13 ⟨rfl, b13⟩
  rw [HI.out]
  replace X := X.below b13 X.lt
  replace Y := Y.below b13 Y.lt
  replace Z := Z.below b13 Z.lt
  replace H := H.still b13
  clear b13
  go_wp2_with fail
  refine hK.out _ _ ?_ (fun hHeld => ?_)
  · exact ⟨desc_cells X, desc_cells Y, desc_cells Z⟩
  clear hK K
  try simp only [List.getElem_toArray, List.getElem_cons_succ, List.getElem_cons_zero, Act.put, List.setIfInBounds_toArray, List.set_cons_zero, List.set_cons_succ]
  refine wpAnyH_ready (rs := [33]) (by kernel_rfl) (by simp) (AllReadyH.cons rfl (fun K hK => ?_) AllReadyH.nil)
  go_simp
  refine (sIsDescriptor_any _ _ _ _ _ _).mono ?_
  rintro e w14 ⟨rfl, b14⟩
  rw [HI.out]
  replace X := X.below b14 X.lt
  replace Y := Y.below b14 Y.lt
  replace Z := Z.below b14 Z.lt
  replace H := H.still b14
  clear b14
  go_wp2_with fail
  refine hK.out _ _ ?_ (fun hHeld => ?_)
  · exact ⟨desc_cells X, desc_cells Y, desc_cells Z⟩
  clear hK K
  try simp only [List.getElem_toArray, List.getElem_cons_succ, List.getElem_cons_zero, Act.put, List.setIfInBounds_toArray, List.set_cons_zero, List.set_cons_succ]
  refine wpAnyH_take (i := 34) (v := ?_) rfl (by kernel_rfl) (by kernel_rfl) (by kernel_rfl) (fun _ _ _ h => h) (Or.inl ⟨by rfl, ?_⟩) (by assumption) ?_
  rotate_left
  · (intro w hSw; (try dsimp only at hSw); go_simp; (try with_reducible rfl))
  try simp only [List.getElem_toArray, List.getElem_cons_succ, List.getElem_cons_zero, Act.put, List.setIfInBounds_toArray, List.set_cons_zero, List.set_cons_succ]
  refine wpAnyH_take (i := 35) (v := ?_) rfl (by kernel_rfl) (by kernel_rfl) (by kernel_rfl) (fun _ _ _ h => h) (Or.inl ⟨by rfl, ?_⟩) (by assumption) ?_
  rotate_left
  · (intro w hSw; (try dsimp only at hSw); go_simp; (try with_reducible rfl))
  try simp only [List.getElem_toArray, List.getElem_cons_succ, List.getElem_cons_zero, Act.put, List.setIfInBounds_toArray, List.set_cons_zero, List.set_cons_succ]
  refine wpAnyH_done (by kernel_rfl) ?_ _
  clear n0 n1 n2 n3 n4 n5 Y Z
  cases iv
  · have hb := HB.out
    unfold descToBytes at hb
    rw [if_neg (by rw [HI.out]; simp)] at hb
    simp only [Prod.mk.injEq] at hb
    have t1 : (r1 != 0) = true := by rw [← hb.2]; rfl
    clear hb
    go_wp2
    go_ret
    exact ⟨rfl, H.below⟩
  have hb := HB.out
  unfold descToBytes at hb
  rw [if_pos HI.out] at hb
  simp only [Prod.mk.injEq] at hb
  obtain ⟨hb0, hb1⟩ := hb
  have t1 : (r1 != 0) = false := by rw [← hb1]; rfl
  have hrd := desc_round HI.out
  rw [hb0] at hrd
  have hl5 : r0.length = 5 := by rw [← hb0]; rfl
  have hpl := pause_law HI.out
  have hcn := cells_ok HI.out
  rw [HP.out] at hpl
  simp only at hpl
  obtain ⟨hp0, hp1, hp2⟩ := hpl
  simp only at hcn
  rw [hcn] at hp2
  simp only at hp2
  obtain ⟨y, hy⟩ : ∃ y, cellsOf8 a z = y := ⟨_, rfl⟩
  rw [hy] at hp2 hcn
  have hin := cells_in a z
  rw [hy] at hin
  have hu := (desc_parts HI.out).2.2.2.2.2
  simp only at hu
  have hw : IntKind.i64.wrap (q0 + y) = u := by rw [IntKind.wrap_i64]; omega
  have hg := fun (W : World) (ao : Option Addr) (cap : Nat) (h : Rd W ao r0.length r0) => descFromBytes_any ao r0.length cap r0 W h (by omega)
  rw [hrd] at hg
  simp only at hg
  have HG := Lib.hid hg
  have hc := fun (W : World) => cellsNeeded_any a z W
  rw [hcn] at hc
  simp only at hc
  have HC := Lib.hid hc
  have HL5 := Lib.hid hl5
  clear hg hc hb0 hrd hcn hy hin hu hp0 hp2 hl5
  obtain ⟨_, _, ee, o5, rr⟩ := (H.get 1 rfl).get
  cases ee
  have RR := Lib.hid rr
  clear rr o5
  go_wp2_with fail
  refine (HG.out _ _ _ RR.out).mono ?_
  rintro e w15 ⟨rfl, b15⟩
  replace X := X.below b15 X.lt
  replace H := H.still b15
  clear b15
  go_upto_region 16 with fail
  have hal : Below w15.heap.size w15 (w15.alloc (.cells #[.int .i64 n, .int .i64 a, .int .i64 z, .int .i64 u, .bool c] 49)) := (Below.refl _ _).alloc (Nat.le_refl _) _
  have V := DescAt.new (T := 49) (n := n) (a := a) (z := z) (u := u) (c := c) w15
  replace X := X.below hal X.lt
  replace H := H.still hal
  clear hal
  obtain ⟨bV, hbV⟩ : ∃ b, b = w15.heap.size := ⟨_, rfl⟩
  rw [← hbV] at V ⊢
  clear hbV
  generalize w15.alloc (.cells #[.int .i64 n, .int .i64 a, .int .i64 z, .int .i64 u, .bool c] 49) = w16 at X V H ⊢
  have xc0 := X.c0
  have xc1 := X.c1
  have xc2 := X.c2
  have xc3 := X.c3
  have xc4 := X.c4
  have xl := X.lt
  go_wp2_with fail
  clear xc0 xc1 xc2 xc3 xc4 xl
  refine (HC.out _).mono ?_
  rintro e w17 ⟨rfl, b17⟩
  replace X := X.below b17 X.lt
  replace V := V.below b17 V.lt
  replace H := H.still b17
  clear b17
  have xc0 := X.c0
  have xc1 := X.c1
  have xc2 := X.c2
  have xc3 := X.c3
  have xc4 := X.c4
  have xl := X.lt
  have vc0 := V.c0
  have vc1 := V.c1
  have vc2 := V.c2
  have vc3 := V.c3
  have vc4 := V.c4
  have vl := V.lt
  have n6 := fun w => desc_eql_self n a z u c w
  have t3 : ((r0.length : Int) == 5) = true := by rw [HL5.out]; rfl
  go_wp2_with fail
  go_ret
  exact ⟨rfl, H.below⟩


end Go.Proofs.Ytbdfnkhmnglpbaa.fnDescriptors
