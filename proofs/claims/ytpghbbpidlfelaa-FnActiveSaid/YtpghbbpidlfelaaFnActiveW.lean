/-
  The walk of laws.FnActive: at every input it returns true and writes nothing that was there.
-/
import Derived.Test.YtpghbbpidlfelaaRows
import Derived.Test.YtpghbbpidlfelaaNI
import Derived.Test.YtpghbbpidlfelaaNL
import Derived.Test.YtpghbbpidlfelaaL4
import Derived.Test.YtpghbbpidlfelaaDrawA
import Derived.Test.YtpghbbpidlfelaaDrawB
import Derived.Test.YtpghbbpidlfelaaN8
import Derived.WalkKit
import Derived.ProofKit
import Derived.OpenShut
import Derived.ShutString
import Derived.ChangeOld
import Derived.Below
namespace Go.Proofs.Ytpghbbpidlfelaa.fnActive
open Go.ChangeShapes Go.WideShapes Go.ChangeAt Go.RowKit
open Go.ChangeMaps (open_string shut_string)
set_option linter.unusedVariables false


/-- WHAT THE WALK IS TOLD OF A SLICE OF INTEGERS THAT CAME IN: it is nil; or it leads to a row of 'cap' cells, the numbers 'zs' (the first 'len' are its elements, the rest its spare room), each fitting its kind. -/
def IsRow (k : IntKind) (w : World) (a : Option Addr) (len cap : Nat) (zs : List Int) : Prop :=
  (a = none ∧ len = 0 ∧ cap = 0 ∧ zs = []) ∨
  ∃ x, a = some x ∧ len ≤ cap ∧ cap ≤ maxLen ∧ zs.length = cap ∧ (∀ i, i < zs.length → w.cell? (x.add i) = some (.int k (zs.getD i 0))) ∧ ∀ n ∈ zs, (Lit.int k n).wf = true

/-! ### STEP 1: THE WALK: the Go text returns true, AND WRITES NOTHING THAT WAS THERE: 'Below w.heap.size w w'' (Derived/Below.lean: '.refl', '.alloc', '.drew', '.setCell' at a new block, '.trans'). Open each 'IsRow' by 'rcases' AHEAD of 'go_enter'; part every test ahead of the walk. -/
set_option maxRecDepth 100000 in set_option maxHeartbeats 4000000 in set_option linter.unusedSimpArgs false in
theorem walk (a0 : Option Addr) (len0 cap0 : Nat) (z0 : List Int) (w : World) (w0 : IsRow .u8 w a0 len0 cap0 z0) :
    Calls Try.prog 4 #[.slice a0 len0 cap0] w fun e w' => e = .returned (.bool true) ∧ Below w.heap.size w w' := by
  have hr := rdB_of_row w0
  clear w0
  generalize List.take len0 z0 = cs at hr
  have HR := Lib.hid hr; clear hr
  by_cases hbig : len0 ≤ 4096
  rotate_left
  · go_enter Try.func4, Try.ntmps4
    go_wp2_with fail
    refine (big_yes _ _ _ _ hbig).mono ?_
    rintro e w' ⟨rfl, rfl⟩
    go_wp2
    go_ret
    exact ⟨rfl, Below.refl _ _⟩
  go_enter Try.func4, Try.ntmps4
  go_wp2_with fail
  refine (big_no _ _ _ _ hbig).mono ?_
  rintro e w' ⟨rfl, rfl⟩
  have H : Hold w w [] := Hold.start
  go_wp2_with fail
  refine (drawWorstDrift_any _ _ _ cs _ HR.out (by omega)).mono ?_
  rintro e w1' ⟨v, t, z, rfl, oT, haT, bT⟩
  obtain ⟨pT, cT, rfl, oT, -⟩ := oT.get
  replace H := H.makeN oT bT
  have HA := Lib.hid haT
  clear oT bT haT
  obtain ⟨d0, c0, hF⟩ : ∃ d0 c0, worstDrift t z = (d0, c0) := ⟨_, _, rfl⟩
  obtain ⟨v0, c1, hV⟩ : ∃ v0 c1, activeVector t = (v0, c1) := ⟨_, _, rfl⟩
  have HF := Lib.hid hF; have HV := Lib.hid hV
  clear hF hV
  go_wp2_with fail
  refine (worstDrift_any _ _ _ t z _ (H.rdN 0 rfl) (OwnN.cap (H.getN 0 rfl)).1 (OwnN.cap (H.getN 0 rfl)).2 HA.out.small).mono ?_
  rintro e w2' ⟨rfl, b2⟩
  replace H := H.still b2
  clear b2
  rw [HF.out]
  go_wp2_with fail
  refine (sWorstDrift_any _ _ _ t z _ (H.rdN 0 rfl) (OwnN.cap (H.getN 0 rfl)).1 (OwnN.cap (H.getN 0 rfl)).2 HA.out.small).mono ?_
  rintro e w3' ⟨rfl, b3⟩
  replace H := H.still b3
  clear b3
  rw [HF.out]
  go_wp2_with fail
  refine (activeVector_any _ _ _ t _ (H.rdN 0 rfl) (OwnN.cap (H.getN 0 rfl)).1 (OwnN.cap (H.getN 0 rfl)).2 HA.out.small).mono ?_
  rintro e w4' ⟨rfl, b4⟩
  replace H := H.still b4
  clear b4
  rw [HV.out]
  go_wp2_with fail
  refine (sActiveVector_any _ _ _ t _ (H.rdN 0 rfl) (OwnN.cap (H.getN 0 rfl)).1 (OwnN.cap (H.getN 0 rfl)).2 HA.out.small).mono ?_
  rintro e w5' ⟨rfl, b5⟩
  replace H := H.still b5
  clear b5
  rw [HV.out]
  go_wp2_with fail
  refine (drawFindNode_any _ _ _ cs _ (rdB_later HR.out H.below) (by omega)).mono ?_
  rintro e w6' ⟨v, t2, id, rfl, oY, ha2, bY⟩
  obtain ⟨pY, cY, rfl, oY, -⟩ := oY.get
  replace H := H.makeN oY bY
  have HA2 := Lib.hid ha2
  clear oY bY ha2
  obtain ⟨xr, c2, hX⟩ : ∃ xr c2, findNode t2 id = (xr, c2) := ⟨_, _, rfl⟩
  have HX := Lib.hid hX; clear hX
  go_wp2_with fail
  refine (findNode_any _ _ _ t2 id _ (H.rdN 0 rfl) (OwnN.cap (H.getN 0 rfl)).1 (OwnN.cap (H.getN 0 rfl)).2 HA2.out.small).mono ?_
  rintro e w7' ⟨rfl, b7⟩
  replace H := H.still b7
  clear b7
  rw [HX.out]
  unfold ndVal
  have hbx7 : NdAt 41 (w7'.alloc (.cells #[.int .i64 xr.id, .string xr.name, .int .i64 xr.drift, .bool xr.pas] 41)) w7'.heap.size xr := NdAt.new _
  have hbl : Below w7'.heap.size w7' (w7'.alloc (.cells #[.int .i64 xr.id, .string xr.name, .int .i64 xr.drift, .bool xr.pas] 41)) := (Below.refl _ _).alloc (Nat.le_refl _) _
  replace H := H.still hbl
  clear hbl
  go_wp2_with fail
  generalize w7'.heap.size = bx7 at hbx7 ⊢
  generalize w7'.alloc (.cells #[.int .i64 xr.id, .string xr.name, .int .i64 xr.drift, .bool xr.pas] 41) = wx7 at hbx7 H ⊢
  have HBX7 := Lib.hid hbx7; clear hbx7
  refine (sFindNode_any _ _ _ t2 id _ (H.rdN 0 rfl) (OwnN.cap (H.getN 0 rfl)).1 (OwnN.cap (H.getN 0 rfl)).2 HA2.out.small).mono ?_
  rintro e w8' ⟨rfl, b8⟩
  replace H := H.still b8
  have hbx7 := HBX7.out.below b8 HBX7.out.lt; clear HBX7; have HBX7 := Lib.hid hbx7; clear hbx7
  clear b8
  rw [HX.out]
  unfold ndVal
  have hbx8 : NdAt 41 (w8'.alloc (.cells #[.int .i64 xr.id, .string xr.name, .int .i64 xr.drift, .bool xr.pas] 41)) w8'.heap.size xr := NdAt.new _
  have hbl : Below w8'.heap.size w8' (w8'.alloc (.cells #[.int .i64 xr.id, .string xr.name, .int .i64 xr.drift, .bool xr.pas] 41)) := (Below.refl _ _).alloc (Nat.le_refl _) _
  replace H := H.still hbl
  have hbx7 := HBX7.out.below hbl HBX7.out.lt; clear HBX7
  clear hbl
  have hneq := fun W => nd_neq xr W
  have hn0 : (c0 != c0) = false := bne_self_eq_false _
  have hn1 : (c1 != c1) = false := bne_self_eq_false _
  have hn2 : (c2 != c2) = false := bne_self_eq_false _
  have hn3 : (d0 != d0) = false := bne_self_eq_false _
  have hn4 : (v0 != v0) = false := bne_self_eq_false _
  obtain ⟨e0, e1, e2, e3⟩ := hbx7.in_
  obtain ⟨f0, f1, f2, f3⟩ := hbx8.in_
  by_cases hbad : c0 = 0
  rotate_left
  · have t1 : (c0 != 0) = true := by simp [hbad]
    clear hbad
    go_wp2_with fail
    go_ret
    exact ⟨rfl, H.below⟩
  subst hbad
  obtain ⟨hit, hz, u, hu, hud⟩ := worst_half HF.out
  have hv := HV.out
  rw [av_yes hit] at hv
  simp only [Prod.mk.injEq] at hv
  have hz2 : IntKind.i64.wrap (z.tdiv 2) = z / 2 := by rw [Int.tdiv_eq_ediv_of_nonneg hz.1, IntKind.wrap_i64]; omega
  obtain ⟨y2, hy2⟩ : ∃ y2, y2 = z / 2 := ⟨_, rfl⟩
  rw [← hy2] at hz2 hu
  have htl : t.length ≤ 5 := HA.out.1
  have hmem := fun i (hi : i < t.length) => active_member hit hi
  rw [hv.1] at hmem
  have hfind := fun i (hi : i < t.length) => find_at hit hi
  have hnds := fun i (hi : i < t.length) => table_nd hit hi
  have HU := Lib.hid hu; have HMEM := Lib.hid hmem; have HFIND := Lib.hid hfind; have HNDS := Lib.hid hnds
  clear hv hz hy2 hu hmem hfind hnds hit
  go_wp2_with fail
  clear e0 e1 e2 e3 f0 f1 f2 f3 hneq hn0 hn1 hn2 hn3 hn4 hbx7 hbx8
  have hrt := (H.rdN 1 rfl)
  have hct := (OwnN.cap (H.getN 1 rfl))
  generalize w8'.alloc (.cells #[.int .i64 xr.id, .string xr.name, .int .i64 xr.drift, .bool xr.pas] 41) = wL at H hrt hct ⊢
  obtain ⟨n, hn⟩ : ∃ n, n = t.length := ⟨_, rfl⟩
  rw [← hn] at hrt hct htl ⊢
  have HN := Lib.hid hn; have HRT := Lib.hid hrt
  have hHB := H.below
  have HHB := Lib.hid hHB
  clear hn hrt hHB H
  go_loopw [19] (fun i wr => ∃ k : Nat, k ≤ n ∧ i = .int .i64 k ∧ Below wL.heap.size wL wr) (fun i _ => n - (intOf i).toNat)
  case atStart => exact ⟨0, Nat.zero_le _, rfl, Below.refl _ _⟩
  case round =>
    obtain ⟨k, hk, rfl, hb⟩ := hrel
    by_cases hlt : k < n
    · have hkt : k < t.length := by rw [← HN.out]; exact hlt
      have hrt := HRT.out.below hb
      obtain ⟨g, off, rfl, hg, hx⟩ := hrt.at hlt
      have hfi := HFIND.out k hkt
      have hme := HMEM.out k hkt
      have hnd := HNDS.out k hkt
      obtain ⟨y, hye⟩ : ∃ y, y = ndOf t k := ⟨_, rfl⟩
      rw [← hye] at hx hfi hme hnd
      have hcall := findNode_any (some ⟨g, off, none⟩) n cT t y.id wr hrt hct.1 hct.2 HA.out.small
      rw [hfi] at hcall
      unfold GivesNd ndVal at hcall
      dsimp only at hcall
      have HCALL := Lib.hid hcall; have HB := Lib.hid hb; have HG := Lib.hid hg
      have hsy : y.name.size ≤ 30 := by rw [hye]; exact HA.out.2 _ (ndOf_mem hkt)
      have hnic := fun W => isNodeInfo_any y W (by omega)
      rw [hnd] at hnic
      unfold ndVal at hnic
      have HNI := Lib.hid hnic
      have hmc := fun W => hasMember_any v0 y.id W
      rw [hme] at hmc
      have HMC := Lib.hid hmc
      have hneq := fun W => nd_neq y W
      have hpe : ((!y.pas) == y.pas) = false := by cases y.pas <;> rfl
      have hkc : (k : Int) < (cT : Int) := by omega
      have HXR := Lib.hid hx
      clear hfi hme hnd hcall hb hnic hmc hye hrt hsy hkt
      obtain ⟨yi, yn, yf, yp⟩ := y
      dsimp only at *
      obtain ⟨h0, h1, h2, h3⟩ := hx
      go_wp2_with fail
      refine HCALL.out.mono ?_
      rintro e w2 ⟨rfl, b2⟩
      have HX2 := Lib.hid (HXR.out.below b2 HG.out)
      have HB2 := Lib.hid (below_two HB.out b2)
      have hgl : g < w2.heap.size := Nat.lt_of_lt_of_le HG.out b2.size
      clear b2 h0 h1 h2 h3 hg
      go_upto_region 19 with fail
      have hbx : NdAt 41 (w2.alloc (.cells #[.int .i64 yi, .string yn, .int .i64 yf, .bool yp] 41)) w2.heap.size ⟨yi, yn, yf, yp⟩ := NdAt.new (x := ⟨yi, yn, yf, yp⟩) w2
      have hbl : Below w2.heap.size w2 (w2.alloc (.cells #[.int .i64 yi, .string yn, .int .i64 yf, .bool yp] 41)) := (Below.refl _ _).alloc (Nat.le_refl _) _
      have HX3 := Lib.hid (HX2.out.below hbl hgl)
      have HB3 := Lib.hid (below_two HB2.out hbl)
      have HBX := Lib.hid hbx
      have hgl3 : g < (w2.alloc (.cells #[.int .i64 yi, .string yn, .int .i64 yf, .bool yp] 41)).heap.size := Nat.lt_of_lt_of_le hgl hbl.size
      clear hbx hbl hgl
      generalize w2.heap.size = bx at HBX ⊢
      generalize w2.alloc (.cells #[.int .i64 yi, .string yn, .int .i64 yf, .bool yp] 41) = w3 at HX3 HB3 HBX hgl3 ⊢
      refine wp_region_held_drew (S := fun w' => w'.cell? ⟨bx, 0, none⟩ = some (.int .i64 yi) ∧ w'.cell? ⟨bx, 1, none⟩ = some (.string yn) ∧ w'.cell? ⟨bx, 2, none⟩ = some (.int .i64 yf) ∧ w'.cell? ⟨bx, 3, none⟩ = some (.bool yp) ∧ w'.cell? ⟨g, off + k * 4, none⟩ = some (.int .i64 yi) ∧ w'.cell? ⟨g, off + k * 4 + 1, none⟩ = some (.string yn) ∧ w'.cell? ⟨g, off + k * 4 + 2, none⟩ = some (.int .i64 yf) ∧ w'.cell? ⟨g, off + k * 4 + 3, none⟩ = some (.bool yp)) (by kernel_rfl) (⟨HBX.out.in_.c0, HBX.out.in_.c1, HBX.out.in_.c2, HBX.out.in_.c3, HX3.out.c0, HX3.out.c1, HX3.out.c2, HX3.out.c3⟩) (fun hHeld => ?_)
      refine wpAnyH_take (i := 0) (v := ?_) rfl (by kernel_rfl) (by kernel_rfl) (by kernel_rfl) (fun _ _ _ h => h) (Or.inl ⟨by rfl, ?_⟩) (by assumption) ?_
      rotate_left
      · (intro w hSw; (try dsimp only at hSw); go_simp; (try with_reducible rfl))
      try simp only [List.getElem_toArray, List.getElem_cons_succ, List.getElem_cons_zero, Act.put, List.setIfInBounds_toArray, List.set_cons_zero, List.set_cons_succ]
      refine wpAnyH_take (i := 1) (v := ?_) rfl (by kernel_rfl) (by kernel_rfl) (by kernel_rfl) (fun _ _ _ h => h) (Or.inl ⟨by rfl, ?_⟩) (by assumption) ?_
      rotate_left
      · (intro w hSw; (try dsimp only at hSw); go_simp; (try with_reducible rfl))
      try simp only [List.getElem_toArray, List.getElem_cons_succ, List.getElem_cons_zero, Act.put, List.setIfInBounds_toArray, List.set_cons_zero, List.set_cons_succ]
      refine wpAnyH_take (i := 2) (v := ?_) rfl (by kernel_rfl) (by kernel_rfl) (by kernel_rfl) (fun _ _ _ h => h) (Or.inl ⟨by rfl, ?_⟩) (by assumption) ?_
      rotate_left
      · (intro w hSw; (try dsimp only at hSw); go_simp; (try with_reducible rfl))
      try simp only [List.getElem_toArray, List.getElem_cons_succ, List.getElem_cons_zero, Act.put, List.setIfInBounds_toArray, List.set_cons_zero, List.set_cons_succ]
      refine wpAnyH_take (i := 3) (v := ?_) rfl (by kernel_rfl) (by kernel_rfl) (by kernel_rfl) (fun _ _ _ h => h) (Or.inl ⟨by rfl, ?_⟩) (by assumption) ?_
      rotate_left
      · (intro w hSw; (try dsimp only at hSw); go_simp; (try with_reducible rfl))
      try simp only [List.getElem_toArray, List.getElem_cons_succ, List.getElem_cons_zero, Act.put, List.setIfInBounds_toArray, List.set_cons_zero, List.set_cons_succ]
      refine wpAnyH_take (i := 4) (v := ?_) rfl (by kernel_rfl) (by kernel_rfl) (by kernel_rfl) (fun _ _ _ h => h) (Or.inl ⟨by rfl, ?_⟩) (by assumption) ?_
      rotate_left
      · (intro w hSw; (try dsimp only at hSw); go_simp; (try with_reducible rfl))
      try simp only [List.getElem_toArray, List.getElem_cons_succ, List.getElem_cons_zero, Act.put, List.setIfInBounds_toArray, List.set_cons_zero, List.set_cons_succ]
      refine wpAnyH_take (i := 5) (v := ?_) rfl (by kernel_rfl) (by kernel_rfl) (by kernel_rfl) (fun _ _ _ h => h) (Or.inl ⟨by rfl, ?_⟩) (by assumption) ?_
      rotate_left
      · (intro w hSw; (try dsimp only at hSw); go_simp; (try with_reducible rfl))
      try simp only [List.getElem_toArray, List.getElem_cons_succ, List.getElem_cons_zero, Act.put, List.setIfInBounds_toArray, List.set_cons_zero, List.set_cons_succ]
      refine wpAnyH_take (i := 6) (v := ?_) rfl (by kernel_rfl) (by kernel_rfl) (by kernel_rfl) (fun _ _ _ h => h) (Or.inl ⟨by rfl, ?_⟩) (by assumption) ?_
      rotate_left
      · (intro w hSw; (try dsimp only at hSw); go_simp; (try with_reducible rfl))
      try simp only [List.getElem_toArray, List.getElem_cons_succ, List.getElem_cons_zero, Act.put, List.setIfInBounds_toArray, List.set_cons_zero, List.set_cons_succ]
      refine wpAnyH_take (i := 7) (v := ?_) rfl (by kernel_rfl) (by kernel_rfl) (by kernel_rfl) (fun _ _ _ h => h) (Or.inl ⟨by rfl, ?_⟩) (by assumption) ?_
      rotate_left
      · (intro w hSw; (try dsimp only at hSw); go_simp; (try with_reducible rfl))
      try simp only [List.getElem_toArray, List.getElem_cons_succ, List.getElem_cons_zero, Act.put, List.setIfInBounds_toArray, List.set_cons_zero, List.set_cons_succ]
      refine wpAnyH_take (i := 8) (v := ?_) rfl (by kernel_rfl) (by kernel_rfl) (by kernel_rfl) (fun _ _ _ h => h) (Or.inl ⟨by rfl, ?_⟩) (by assumption) ?_
      rotate_left
      · (intro w hSw; (try dsimp only at hSw); go_simp; (try with_reducible rfl))
      try simp only [List.getElem_toArray, List.getElem_cons_succ, List.getElem_cons_zero, Act.put, List.setIfInBounds_toArray, List.set_cons_zero, List.set_cons_succ]
      refine wpAnyH_take (i := 9) (v := ?_) rfl (by kernel_rfl) (by kernel_rfl) (by kernel_rfl) (fun _ _ _ h => h) (Or.inl ⟨by rfl, ?_⟩) (by assumption) ?_
      rotate_left
      · (intro w hSw; (try dsimp only at hSw); go_simp; (try with_reducible rfl))
      try simp only [List.getElem_toArray, List.getElem_cons_succ, List.getElem_cons_zero, Act.put, List.setIfInBounds_toArray, List.set_cons_zero, List.set_cons_succ]
      refine wpAnyH_take (i := 10) (v := ?_) rfl (by kernel_rfl) (by kernel_rfl) (by kernel_rfl) (fun _ _ _ h => h) (Or.inl ⟨by rfl, ?_⟩) (by assumption) ?_
      rotate_left
      · (intro w hSw; (try dsimp only at hSw); go_simp; (try with_reducible rfl))
      try simp only [List.getElem_toArray, List.getElem_cons_succ, List.getElem_cons_zero, Act.put, List.setIfInBounds_toArray, List.set_cons_zero, List.set_cons_succ]
      refine wpAnyH_take (i := 11) (v := ?_) rfl (by kernel_rfl) (by kernel_rfl) (by kernel_rfl) (fun _ _ _ h => h) (Or.inl ⟨by rfl, ?_⟩) (by assumption) ?_
      rotate_left
      · (intro w hSw; (try dsimp only at hSw); go_simp; (try with_reducible rfl))
      try simp only [List.getElem_toArray, List.getElem_cons_succ, List.getElem_cons_zero, Act.put, List.setIfInBounds_toArray, List.set_cons_zero, List.set_cons_succ]
      refine wpAnyH_ready (rs := [12]) (by kernel_rfl) (by simp) (AllReadyH.cons rfl (fun K hK => ?_) AllReadyH.nil)
      go_simp
      refine (HNI.out _).mono ?_
      rintro e w4 ⟨rfl, b4⟩
      replace b4 := below_two (Below.drew (Below.refl w3.heap.size w3)) b4
      have HBX4 := Lib.hid (HBX.out.below b4 HBX.out.lt); have HX4 := Lib.hid (HX3.out.below b4 hgl3); have HB4 := Lib.hid (below_two HB3.out b4)
      have hgl4 : g < w4.heap.size := Nat.lt_of_lt_of_le hgl3 b4.size
      clear b4
      go_wp2_with fail
      refine hK.out _ _ ?_ (fun hHeld => ?_)
      · exact ⟨HBX4.out.in_.c0, HBX4.out.in_.c1, HBX4.out.in_.c2, HBX4.out.in_.c3, HX4.out.c0, HX4.out.c1, HX4.out.c2, HX4.out.c3⟩
      clear hK K
      try simp only [List.getElem_toArray, List.getElem_cons_succ, List.getElem_cons_zero, Act.put, List.setIfInBounds_toArray, List.set_cons_zero, List.set_cons_succ]
      refine wpAnyH_take (i := 13) (v := ?_) rfl (by kernel_rfl) (by kernel_rfl) (by kernel_rfl) (fun _ _ _ h => h) (Or.inl ⟨by rfl, ?_⟩) (by assumption) ?_
      rotate_left
      · (intro w hSw; (try dsimp only at hSw); go_simp; (try with_reducible rfl))
      try simp only [List.getElem_toArray, List.getElem_cons_succ, List.getElem_cons_zero, Act.put, List.setIfInBounds_toArray, List.set_cons_zero, List.set_cons_succ]
      refine wpAnyH_take (i := 14) (v := ?_) rfl (by kernel_rfl) (by kernel_rfl) (by kernel_rfl) (fun _ _ _ h => h) (Or.inl ⟨by rfl, ?_⟩) (by assumption) ?_
      rotate_left
      · (intro w hSw; (try dsimp only at hSw); go_simp; (try with_reducible rfl))
      try simp only [List.getElem_toArray, List.getElem_cons_succ, List.getElem_cons_zero, Act.put, List.setIfInBounds_toArray, List.set_cons_zero, List.set_cons_succ]
      refine wpAnyH_take (i := 15) (v := ?_) rfl (by kernel_rfl) (by kernel_rfl) (by kernel_rfl) (fun _ _ _ h => h) (Or.inl ⟨by rfl, ?_⟩) (by assumption) ?_
      rotate_left
      · (intro w hSw; (try dsimp only at hSw); go_simp; (try with_reducible rfl))
      try simp only [List.getElem_toArray, List.getElem_cons_succ, List.getElem_cons_zero, Act.put, List.setIfInBounds_toArray, List.set_cons_zero, List.set_cons_succ]
      refine wpAnyH_take (i := 16) (v := ?_) rfl (by kernel_rfl) (by kernel_rfl) (by kernel_rfl) (fun _ _ _ h => h) (Or.inl ⟨by rfl, ?_⟩) (by assumption) ?_
      rotate_left
      · (intro w hSw; (try dsimp only at hSw); go_simp; (try with_reducible rfl))
      try simp only [List.getElem_toArray, List.getElem_cons_succ, List.getElem_cons_zero, Act.put, List.setIfInBounds_toArray, List.set_cons_zero, List.set_cons_succ]
      refine wpAnyH_take (i := 17) (v := ?_) rfl (by kernel_rfl) (by kernel_rfl) (by kernel_rfl) (fun _ _ _ h => h) (Or.inl ⟨by rfl, ?_⟩) (by assumption) ?_
      rotate_left
      · (intro w hSw; (try dsimp only at hSw); go_simp; (try with_reducible rfl))
      try simp only [List.getElem_toArray, List.getElem_cons_succ, List.getElem_cons_zero, Act.put, List.setIfInBounds_toArray, List.set_cons_zero, List.set_cons_succ]
      refine wpAnyH_take (i := 18) (v := ?_) rfl (by kernel_rfl) (by kernel_rfl) (by kernel_rfl) (fun _ _ _ h => h) (Or.inl ⟨by rfl, ?_⟩) (by assumption) ?_
      rotate_left
      · (intro w hSw; (try dsimp only at hSw); go_simp; (try with_reducible rfl))
      try simp only [List.getElem_toArray, List.getElem_cons_succ, List.getElem_cons_zero, Act.put, List.setIfInBounds_toArray, List.set_cons_zero, List.set_cons_succ]
      refine wpAnyH_take (i := 19) (v := ?_) rfl (by kernel_rfl) (by kernel_rfl) (by kernel_rfl) (fun _ _ _ h => h) (Or.inl ⟨by rfl, ?_⟩) (by assumption) ?_
      rotate_left
      · (intro w hSw; (try dsimp only at hSw); go_simp; (try with_reducible rfl))
      try simp only [List.getElem_toArray, List.getElem_cons_succ, List.getElem_cons_zero, Act.put, List.setIfInBounds_toArray, List.set_cons_zero, List.set_cons_succ]
      refine wpAnyH_take (i := 20) (v := ?_) rfl (by kernel_rfl) (by kernel_rfl) (by kernel_rfl) (fun _ _ _ h => h) (Or.inl ⟨by rfl, ?_⟩) (by assumption) ?_
      rotate_left
      · (intro w hSw; (try dsimp only at hSw); go_simp; (try with_reducible rfl))
      try simp only [List.getElem_toArray, List.getElem_cons_succ, List.getElem_cons_zero, Act.put, List.setIfInBounds_toArray, List.set_cons_zero, List.set_cons_succ]
      refine wpAnyH_take (i := 21) (v := ?_) rfl (by kernel_rfl) (by kernel_rfl) (by kernel_rfl) (fun _ _ _ h => h) (Or.inl ⟨by rfl, ?_⟩) (by assumption) ?_
      rotate_left
      · (intro w hSw; (try dsimp only at hSw); go_simp; (try with_reducible rfl))
      try simp only [List.getElem_toArray, List.getElem_cons_succ, List.getElem_cons_zero, Act.put, List.setIfInBounds_toArray, List.set_cons_zero, List.set_cons_succ]
      refine wpAnyH_take (i := 23) (v := ?_) rfl (by kernel_rfl) (by kernel_rfl) (by kernel_rfl) (fun _ _ _ h => h) (Or.inl ⟨by rfl, ?_⟩) (by assumption) ?_
      rotate_left
      · (intro w hSw; (try dsimp only at hSw); go_simp; (try with_reducible rfl))
      try simp only [List.getElem_toArray, List.getElem_cons_succ, List.getElem_cons_zero, Act.put, List.setIfInBounds_toArray, List.set_cons_zero, List.set_cons_succ]
      refine wpAnyH_take (i := 24) (v := ?_) rfl (by kernel_rfl) (by kernel_rfl) (by kernel_rfl) (fun _ _ _ h => h) (Or.inl ⟨by rfl, ?_⟩) (by assumption) ?_
      rotate_left
      · (intro w hSw; (try dsimp only at hSw); go_simp; (try with_reducible rfl))
      try simp only [List.getElem_toArray, List.getElem_cons_succ, List.getElem_cons_zero, Act.put, List.setIfInBounds_toArray, List.set_cons_zero, List.set_cons_succ]
      refine wpAnyH_take (i := 25) (v := ?_) rfl (by kernel_rfl) (by kernel_rfl) (by kernel_rfl) (fun _ _ _ h => h) (Or.inl ⟨by rfl, ?_⟩) (by assumption) ?_
      rotate_left
      · (intro w hSw; (try dsimp only at hSw); go_simp; (try with_reducible rfl))
      try simp only [List.getElem_toArray, List.getElem_cons_succ, List.getElem_cons_zero, Act.put, List.setIfInBounds_toArray, List.set_cons_zero, List.set_cons_succ]
      refine wpAnyH_take (i := 26) (v := ?_) rfl (by kernel_rfl) (by kernel_rfl) (by kernel_rfl) (fun _ _ _ h => h) (Or.inl ⟨by rfl, ?_⟩) (by assumption) ?_
      rotate_left
      · (intro w hSw; (try dsimp only at hSw); go_simp; (try with_reducible rfl))
      try simp only [List.getElem_toArray, List.getElem_cons_succ, List.getElem_cons_zero, Act.put, List.setIfInBounds_toArray, List.set_cons_zero, List.set_cons_succ]
      refine wpAnyH_take (i := 27) (v := ?_) rfl (by kernel_rfl) (by kernel_rfl) (by kernel_rfl) (fun _ _ _ h => h) (Or.inl ⟨by rfl, ?_⟩) (by assumption) ?_
      rotate_left
      · (intro w hSw; (try dsimp only at hSw); go_simp; (try with_reducible rfl))
      try simp only [List.getElem_toArray, List.getElem_cons_succ, List.getElem_cons_zero, Act.put, List.setIfInBounds_toArray, List.set_cons_zero, List.set_cons_succ]
      refine wpAnyH_ready (rs := [22]) (by kernel_rfl) (by simp) (AllReadyH.cons rfl (fun K hK => ?_) AllReadyH.nil)
      go_simp
      refine (HMC.out _).mono ?_
      rintro e w5 ⟨rfl, b5⟩
      have HBX5 := Lib.hid (HBX4.out.below b5 HBX4.out.lt); have HX5 := Lib.hid (HX4.out.below b5 hgl4); have HB5 := Lib.hid (below_two HB4.out b5)
      clear b5
      go_wp2_with fail
      refine hK.out _ _ ?_ (fun hHeld => ?_)
      · exact ⟨HBX5.out.in_.c0, HBX5.out.in_.c1, HBX5.out.in_.c2, HBX5.out.in_.c3, HX5.out.c0, HX5.out.c1, HX5.out.c2, HX5.out.c3⟩
      clear hK K
      try simp only [List.getElem_toArray, List.getElem_cons_succ, List.getElem_cons_zero, Act.put, List.setIfInBounds_toArray, List.set_cons_zero, List.set_cons_succ]
      refine wpAnyH_take (i := 28) (v := ?_) rfl (by kernel_rfl) (by kernel_rfl) (by kernel_rfl) (fun _ _ _ h => h) (Or.inl ⟨by rfl, ?_⟩) (by assumption) ?_
      rotate_left
      · (intro w hSw; (try dsimp only at hSw); go_simp; (try with_reducible rfl))
      try simp only [List.getElem_toArray, List.getElem_cons_succ, List.getElem_cons_zero, Act.put, List.setIfInBounds_toArray, List.set_cons_zero, List.set_cons_succ]
      refine wpAnyH_take (i := 29) (v := ?_) rfl (by kernel_rfl) (by kernel_rfl) (by kernel_rfl) (fun _ _ _ h => h) (Or.inl ⟨by rfl, ?_⟩) (by assumption) ?_
      rotate_left
      · (intro w hSw; (try dsimp only at hSw); go_simp; (try with_reducible rfl))
      try simp only [List.getElem_toArray, List.getElem_cons_succ, List.getElem_cons_zero, Act.put, List.setIfInBounds_toArray, List.set_cons_zero, List.set_cons_succ]
      refine wpAnyH_done (by kernel_rfl) ?_ _
      go_wp2_with fail
      go_roundw
      case rel => exact ⟨k + 1, by omega, by go_num, HB5.out⟩
      case measure => simp [intOf]; omega
    · have hkn : k = n := by omega
      subst hkn
      have hrt := HRT.out.below hb
      have hcall := worstDrift_any pT k cT t y2 wr hrt hct.1 hct.2 HA.out.small
      rw [HU.out] at hcall
      have HCALL := Lib.hid hcall; have HB := Lib.hid hb
      clear hcall hrt hb
      go_wp2_with fail
      refine HCALL.out.mono ?_
      rintro e w2 ⟨rfl, b2⟩
      have HB2 := Lib.hid (below_two HHB.out (below_two HB.out b2)); clear b2
      go_wp2_with fail
      go_ret
      exact ⟨rfl, HB2.out⟩


end Go.Proofs.Ytpghbbpidlfelaa.fnActive
