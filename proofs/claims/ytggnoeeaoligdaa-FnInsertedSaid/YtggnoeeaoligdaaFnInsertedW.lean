/-
  The walk of laws.FnInserted: at every input it returns true and writes nothing that was there.
-/
import Derived.Test.YtggnoeeaoligdaaRows
import Derived.Test.YtggnoeeaoligdaaP3
import Derived.Test.YtggnoeeaoligdaaEigE
import Derived.Test.YtggnoeeaoligdaaSlU
import Derived.Test.YtggnoeeaoligdaaSlN
import Derived.Test.YtggnoeeaoligdaaSlF
import Derived.Test.YtggnoeeaoligdaaTE
import Derived.Test.YtggnoeeaoligdaaTF
import Derived.Test.YtggnoeeaoligdaaDrawA
import Derived.Test.YtggnoeeaoligdaaDrawB
import Derived.WalkKit
import Derived.ProofKit
import Derived.OpenShut
import Derived.ShutString
import Derived.ChangeOld
import Derived.Below
namespace Go.Proofs.Ytggnoeeaoligdaa.fnInserted
open Go.ChangeShapes Go.WideShapes Go.ChangeAt Go.RowKit
open Go.ChangeMaps (open_string shut_string)
set_option linter.unusedVariables false


/-- WHAT THE WALK IS TOLD OF A SLICE OF INTEGERS THAT CAME IN: it is nil; or it leads to a row of 'cap' cells, the numbers 'zs' (the first 'len' are its elements, the rest its spare room), each fitting its kind. -/
def IsRow (k : IntKind) (w : World) (a : Option Addr) (len cap : Nat) (zs : List Int) : Prop :=
  (a = none ∧ len = 0 ∧ cap = 0 ∧ zs = []) ∨
  ∃ x, a = some x ∧ len ≤ cap ∧ cap ≤ maxLen ∧ zs.length = cap ∧ (∀ i, i < zs.length → w.cell? (x.add i) = some (.int k (zs.getD i 0))) ∧ ∀ n ∈ zs, (Lit.int k n).wf = true

/-! ### STEP 1: THE WALK: the Go text returns true, AND WRITES NOTHING THAT WAS THERE: 'Below w.heap.size w w'' (Derived/Below.lean: '.refl', '.alloc', '.drew', '.setCell' at a new block, '.trans'). Open each 'IsRow' by 'rcases' AHEAD of 'go_enter'; part every test ahead of the walk. -/
set_option maxRecDepth 100000 in set_option maxHeartbeats 4000000 in set_option linter.unusedSimpArgs false in set_option linter.unnecessarySimpa false in
theorem walk (a0 : Option Addr) (len0 cap0 : Nat) (z0 : List Int) (w : World) (w0 : IsRow .u8 w a0 len0 cap0 z0) :
    Calls Try.prog 4 #[.slice a0 len0 cap0] w fun e w' => e = .returned (.bool true) ∧ Below w.heap.size w w' := by
  have hr := rdB_of_row w0
  clear w0
  generalize List.take len0 z0 = cs at hr
  have HR := Lib.hid hr; clear hr
  by_cases hbig : len0 ≤ 4096
  rotate_left
  · go_enter Try.func4, Try.ntmps4
    go_wp2_with fail
    refine (big_yes _ _ _ _ hbig).mono ?_
    rintro e w' ⟨rfl, rfl⟩
    go_wp2
    go_ret
    exact ⟨rfl, Below.refl _ _⟩
  go_enter Try.func4, Try.ntmps4
  go_wp2_with fail
  refine (big_no _ _ _ _ hbig).mono ?_
  rintro e w' ⟨rfl, rfl⟩
  go_wp2_with fail
  refine (drawInsertSlot_any _ _ _ cs _ HR.out (by omega)).mono ?_
  rintro e w1 ⟨v, t, x, rfl, oT, haT, bT⟩
  obtain ⟨pT, cT, rfl, oT, rT⟩ := oT.get
  obtain ⟨hcT, hcT2⟩ := oT.cap
  have htn : t.length ≤ 1048576 := by unfold anyS at haT; omega
  obtain ⟨xm, xr, xs, ⟨y0, y1, y2, y3, y4⟩⟩ := x
  dsimp only [slVal]
  have hb2 := (Below.refl w1.heap.size w1).alloc (Nat.le_refl _) (.cells #[.int .i64 xm, .int .i64 xr, .int .i64 xs, .int .i64 y0, .int .i64 y1, .int .i64 y2, .int .i64 y3, .bool y4] 38)
  have HT := Lib.hid (rT.below hb2); have HB := Lib.hid (below_two bT hb2)
  have X := Lib.hid (SlBk.new (T := 38) (x := ⟨xm, xr, xs, ⟨y0, y1, y2, y3, y4⟩⟩) w1)
  clear oT haT bT rT hb2
  go_upto_region 4 with fail
  generalize w1.heap.size = bx at X ⊢
  generalize w1.alloc (.cells #[.int .i64 xm, .int .i64 xr, .int .i64 xs, .int .i64 y0, .int .i64 y1, .int .i64 y2, .int .i64 y3, .bool y4] 38) = w2 at X HT HB ⊢
  have H : Hold w2 w2 [] := Hold.start
  have HCI := Lib.hid (fun W h => insertSlotI_any pT t.length cT t ⟨xm, xr, xs, ⟨y0, y1, y2, y3, y4⟩⟩ W h htn hcT hcT2)
  have HCS := Lib.hid (fun W h => insertSlotS_any pT t.length cT t ⟨xm, xr, xs, ⟨y0, y1, y2, y3, y4⟩⟩ W h htn)
  dsimp only [slVal] at HCI HCS
  obtain ⟨r0, kc, hF⟩ : ∃ r c, insertSlot t ⟨xm, xr, xs, ⟨y0, y1, y2, y3, y4⟩⟩ = (r, c) := ⟨_, _, rfl⟩
  have HF := Lib.hid hF
  have hlen : r0.length ≤ 1048576 := by have h := insertSlot_small t ⟨xm, xr, xs, ⟨y0, y1, y2, y3, y4⟩⟩; rw [hF] at h; exact h
  clear hF
  obtain ⟨z0, z1, z2, z3, z4, z5, z6, z7⟩ := (SlBk.below X.out H.below X.out.lt).all8
  dsimp only at z0 z1 z2 z3 z4 z5 z6 z7
  go_wp2_with fail
  clear z0 z1 z2 z3 z4 z5 z6 z7
  refine (HCI.out _ (HT.out.below H.below)).mono ?_
  rintro e w3' m3
  rw [HF.out] at m3
  change MakesE2 38 _ r0 kc _ _ at m3
  obtain ⟨p3, c3, rfl, o3, -, b3⟩ := m3.get
  replace H : Hold w2 _ ([itsE 38 (Value.slice p3 r0.length c3) (r0)] ++ (([] : List It))) := H.makeE o3 b3
  clear o3 b3 m3
  obtain ⟨z0, z1, z2, z3, z4, z5, z6, z7⟩ := (SlBk.below X.out H.below X.out.lt).all8
  dsimp only at z0 z1 z2 z3 z4 z5 z6 z7
  go_wp2_with fail
  clear z0 z1 z2 z3 z4 z5 z6 z7
  refine (HCS.out _ (HT.out.below H.below)).mono ?_
  rintro e w4' m4
  rw [HF.out] at m4
  change MakesE2 38 _ r0 kc _ _ at m4
  obtain ⟨p4, c4, rfl, o4, -, b4⟩ := m4.get
  replace H : Hold w2 _ ([itsE 38 (Value.slice p4 r0.length c4) (r0)] ++ ([itsE 38 (Value.slice p3 r0.length c3) (r0)] ++ (([] : List It)))) := H.makeE o4 b4
  clear o4 b4 m4
  have n0 : (kc != kc) = false := bne_self_eq_false _
  go_wp2_with fail
  refine (likeSlots_yes _ _ _ _ _ _ _ (Hold.rdE_ (E := 38) (t := r0) (ao := p3) (n := r0.length) (cap := c3) (L1 := [itsE 38 (Value.slice p4 r0.length c4) (r0)] ++ (([] : List It))) (L2 := ([] : List It)) (by simpa only [List.append_assoc, List.nil_append] using H)) (Hold.rdE_ (E := 38) (t := r0) (ao := p4) (n := r0.length) (cap := c4) (L1 := ([] : List It)) (L2 := [itsE 38 (Value.slice p3 r0.length c3) (r0)] ++ (([] : List It))) (by simpa only [List.append_assoc, List.nil_append] using H)) (by omega) (OwnE.cap (Hold.getE_ (E := 38) (t := r0) (v := Value.slice p3 r0.length c3) (L1 := [itsE 38 (Value.slice p4 r0.length c4) (r0)] ++ (([] : List It))) (L2 := ([] : List It)) (by simpa only [List.append_assoc, List.nil_append] using H))).1 (OwnE.cap (Hold.getE_ (E := 38) (t := r0) (v := Value.slice p4 r0.length c4) (L1 := ([] : List It)) (L2 := [itsE 38 (Value.slice p3 r0.length c3) (r0)] ++ (([] : List It))) (by simpa only [List.append_assoc, List.nil_append] using H))).1).mono ?_
  rintro e w5' ⟨rfl, b5⟩
  replace H := H.still b5
  clear b5 n0
  go_wp2_with fail
  refine (drawCompareSlots_any _ _ _ cs _ (rdB_later HR.out (HB.out.trans (H.below.mono HB.out.size))) (by omega)).mono ?_
  rintro e w6' ⟨a, b, rfl, b6⟩
  replace H := H.still b6
  clear b6
  obtain ⟨a0, a1, a2, ⟨a3, a4, a5, a6, a7⟩⟩ := a
  obtain ⟨b0, b1, b2, ⟨b3, b4, b5, b6, b7⟩⟩ := b
  dsimp only [slVal]
  have hbA := (Below.refl w6'.heap.size w6').alloc (Nat.le_refl _) (.cells #[.int .i64 a0, .int .i64 a1, .int .i64 a2, .int .i64 a3, .int .i64 a4, .int .i64 a5, .int .i64 a6, .bool a7] 38)
  have hbB := (Below.refl (w6'.alloc (.cells #[.int .i64 a0, .int .i64 a1, .int .i64 a2, .int .i64 a3, .int .i64 a4, .int .i64 a5, .int .i64 a6, .bool a7] 38)).heap.size (w6'.alloc (.cells #[.int .i64 a0, .int .i64 a1, .int .i64 a2, .int .i64 a3, .int .i64 a4, .int .i64 a5, .int .i64 a6, .bool a7] 38))).alloc (Nat.le_refl _) (.cells #[.int .i64 b0, .int .i64 b1, .int .i64 b2, .int .i64 b3, .int .i64 b4, .int .i64 b5, .int .i64 b6, .bool b7] 38)
  have hs : (w6'.alloc (.cells #[.int .i64 a0, .int .i64 a1, .int .i64 a2, .int .i64 a3, .int .i64 a4, .int .i64 a5, .int .i64 a6, .bool a7] 38)).heap.size = w6'.heap.size + 1 := by simp
  have hA := (SlBk.new (T := 38) (x := ⟨a0, a1, a2, ⟨a3, a4, a5, a6, a7⟩⟩) w6').below hbB (by simp)
  have hB := SlBk.new (T := 38) (x := ⟨b0, b1, b2, ⟨b3, b4, b5, b6, b7⟩⟩) (w6'.alloc (.cells #[.int .i64 a0, .int .i64 a1, .int .i64 a2, .int .i64 a3, .int .i64 a4, .int .i64 a5, .int .i64 a6, .bool a7] 38))
  rw [hs] at hB
  replace H := (H.still hbA).still hbB
  have XA := Lib.hid hA; have XB := Lib.hid hB
  clear hbA hbB hs hA hB
  go_upto_region 9 with fail
  generalize (w6'.alloc (.cells #[.int .i64 a0, .int .i64 a1, .int .i64 a2, .int .i64 a3, .int .i64 a4, .int .i64 a5, .int .i64 a6, .bool a7] 38)).alloc (.cells #[.int .i64 b0, .int .i64 b1, .int .i64 b2, .int .i64 b3, .int .i64 b4, .int .i64 b5, .int .i64 b6, .bool b7] 38) = w7 at H XA XB ⊢
  generalize w6'.heap.size = ja at XA XB ⊢
  have HAB := Lib.hid (fun W => cmpSlI_any ⟨a0, a1, a2, ⟨a3, a4, a5, a6, a7⟩⟩ ⟨b0, b1, b2, ⟨b3, b4, b5, b6, b7⟩⟩ W); have HABS := Lib.hid (fun W => cmpSlS_any ⟨a0, a1, a2, ⟨a3, a4, a5, a6, a7⟩⟩ ⟨b0, b1, b2, ⟨b3, b4, b5, b6, b7⟩⟩ W); have HBA := Lib.hid (fun W => cmpSlI_any ⟨b0, b1, b2, ⟨b3, b4, b5, b6, b7⟩⟩ ⟨a0, a1, a2, ⟨a3, a4, a5, a6, a7⟩⟩ W)
  have hc1 := cmpSl_neg ⟨a0, a1, a2, ⟨a3, a4, a5, a6, a7⟩⟩ ⟨b0, b1, b2, ⟨b3, b4, b5, b6, b7⟩⟩
  have hc2 := cmpSl_in ⟨a0, a1, a2, ⟨a3, a4, a5, a6, a7⟩⟩ ⟨b0, b1, b2, ⟨b3, b4, b5, b6, b7⟩⟩
  dsimp only [slVal] at HAB HABS HBA
  generalize cmpSl ⟨b0, b1, b2, ⟨b3, b4, b5, b6, b7⟩⟩ ⟨a0, a1, a2, ⟨a3, a4, a5, a6, a7⟩⟩ = cba at HBA hc1
  generalize cmpSl ⟨a0, a1, a2, ⟨a3, a4, a5, a6, a7⟩⟩ ⟨b0, b1, b2, ⟨b3, b4, b5, b6, b7⟩⟩ = cab at HAB HABS hc1 hc2
  have hne : (cab != cab) = false := bne_self_eq_false _
  have hneg : (cba != wrap64 (-cab)) = false := by
    have : wrap64 (-cab) = cba := by unfold wrap64; omega
    rw [this]; exact bne_self_eq_false _
  have hneg2 : (cba != IntKind.i64.wrap (-cab)) = false := by
    have : IntKind.i64.wrap (-cab) = cba := by rw [IntWalk.i64_in _ (by omega)]; omega
    rw [this]; exact bne_self_eq_false _
  clear hc1 hc2
  have HH := Lib.hid H; clear H
  have H1 := Lib.hid (Below.drew (Below.refl w7.heap.size w7))
  go_region_held3 (fun w' => w'.cell? ⟨ja, 0, none⟩ = some (Value.int .i64 a0) ∧ w'.cell? ⟨ja, 1, none⟩ = some (Value.int .i64 a1) ∧ w'.cell? ⟨ja, 2, none⟩ = some (Value.int .i64 a2) ∧ w'.cell? ⟨ja, 3, none⟩ = some (Value.int .i64 a3) ∧ w'.cell? ⟨ja, 4, none⟩ = some (Value.int .i64 a4) ∧ w'.cell? ⟨ja, 5, none⟩ = some (Value.int .i64 a5) ∧ w'.cell? ⟨ja, 6, none⟩ = some (Value.int .i64 a6) ∧ w'.cell? ⟨ja, 7, none⟩ = some (Value.bool a7) ∧ w'.cell? ⟨ja + 1, 0, none⟩ = some (Value.int .i64 b0) ∧ w'.cell? ⟨ja + 1, 1, none⟩ = some (Value.int .i64 b1) ∧ w'.cell? ⟨ja + 1, 2, none⟩ = some (Value.int .i64 b2) ∧ w'.cell? ⟨ja + 1, 3, none⟩ = some (Value.int .i64 b3) ∧ w'.cell? ⟨ja + 1, 4, none⟩ = some (Value.int .i64 b4) ∧ w'.cell? ⟨ja + 1, 5, none⟩ = some (Value.int .i64 b5) ∧ w'.cell? ⟨ja + 1, 6, none⟩ = some (Value.int .i64 b6) ∧ w'.cell? ⟨ja + 1, 7, none⟩ = some (Value.bool b7))
    (first | exact two16 H1.out XA.out XB.out | exact two16 H2.out XA.out XB.out | exact two16 H3.out XA.out XB.out | exact two16 H4.out XA.out XB.out | exact two16 H5.out XA.out XB.out)
    (first
      | (go_at_call 32; have HK := H1.out; clear H1; (first | (with_reducible refine (HAB.out _).mono ?_)); rintro e w71' ⟨rfl, b71⟩; have H2 := Lib.hid (below_two HK b71); clear b71 HK)
      | (go_at_call 33; have HK := H2.out; clear H2; (first | (with_reducible refine (HABS.out _).mono ?_)); rintro e w72' ⟨rfl, b72⟩; have H3 := Lib.hid (below_two HK b72); clear b72 HK)
      | (go_at_call 32; have HK := H3.out; clear H3; (first | (with_reducible refine (HBA.out _).mono ?_)); rintro e w73' ⟨rfl, b73⟩; have H4 := Lib.hid (below_two HK b73); clear b73 HK)
      | (go_at_call 32; have HK := H4.out; clear H4; (first | (with_reducible refine (HAB.out _).mono ?_)); rintro e w74' ⟨rfl, b74⟩; have H5 := Lib.hid (below_two HK b74); clear b74 HK))
  have H := HH.out.still H5.out
  clear HH H5 HAB HABS HBA XA XB
  by_cases hbad : kc = 0
  rotate_left
  · have t1' : (kc != 0) = true := by simp [hbad]
    clear hbad
    go_wp2_with fail
    go_ret
    exact ⟨rfl, HB.out.trans (H.below.mono HB.out.size)⟩
  subst hbad
  obtain ⟨hit, hir, hye, hfx, hln, hl1⟩ := insert_law HF.out
  have hix : isSl ⟨xm, xr, xs, ⟨y0, y1, y2, y3, y4⟩⟩ = true := (isSls_iff.1 hir).2.1 _ (by rw [hye]; simp)
  have HWX := Lib.hid (wfE_of hix)
  have HS1 := Lib.hid (show slotsOfNode t y0 = (nodeTo t y0 t.length, 0) from by unfold slotsOfNode; rw [if_neg (by rw [hit]; simp)])
  have HS2 := Lib.hid (show slotsOfNode r0 y0 = (nodeTo r0 y0 r0.length, 0) from by unfold slotsOfNode; rw [if_neg (by rw [hir]; simp)])
  have hsm := slotsOfNode_small t y0
  rw [HS1.out] at hsm
  dsimp only at hfx hln hsm
  generalize nodeTo t y0 t.length = l1 at HS1 hln hsm
  generalize nodeTo r0 y0 r0.length = l2 at HS2 hln
  have HFX := Lib.hid hfx; have HIR := Lib.hid hir; have HLN := Lib.hid hln
  clear hit hir hye hfx hl1 hix HF hln
  obtain ⟨z0, z1, z2, z3, z4, z5, z6, z7⟩ := (SlBk.below X.out H.below X.out.lt).all8
  dsimp only at z0 z1 z2 z3 z4 z5 z6 z7
  go_wp2_with fail
  clear z0 z1 z2 z3 z4 z5 z6 z7
  refine (findSlotI_any _ _ _ r0 xm xr xs _ (Hold.rdE_ (E := 38) (t := r0) (ao := p3) (n := r0.length) (cap := c3) (L1 := [itsE 38 (Value.slice p4 r0.length c4) (r0)] ++ (([] : List It))) (L2 := ([] : List It)) (by simpa only [List.append_assoc, List.nil_append] using H)) hlen HWX.out).mono ?_
  rintro e w21' ⟨rfl, b21⟩
  rw [HFX.out]
  dsimp only [dsVal]
  have hx := DescAt.new (T := 36) (n := y0) (a := y1) (z := y2) (u := y3) (c := y4) w21'
  replace H := (H.still b21).still ((Below.refl _ _).alloc (Nat.le_refl _) (.cells #[.int .i64 y0, .int .i64 y1, .int .i64 y2, .int .i64 y3, .bool y4] 36))
  have XD := Lib.hid hx; clear hx b21
  go_upto_region 14 with fail
  generalize w21'.heap.size = bd at XD ⊢
  generalize w21'.alloc (.cells #[.int .i64 y0, .int .i64 y1, .int .i64 y2, .int .i64 y3, .bool y4] 36) = w8' at H XD ⊢
  obtain ⟨z0, z1, z2, z3, z4, z5, z6, z7⟩ := (SlBk.below X.out H.below X.out.lt).all8
  dsimp only at z0 z1 z2 z3 z4 z5 z6 z7
  go_wp2_with fail
  clear z0 z1 z2 z3 z4 z5 z6 z7
  refine (slotsOfNodeI_any _ _ _ t _ _ (HT.out.below H.below) htn).mono ?_
  rintro e w22' m22
  rw [HS1.out] at m22
  change Makes2 2 _ l1 0 _ _ at m22
  obtain ⟨_, _, -, -, -, hbk⟩ := m22.get
  have hx := XD.out.below hbk XD.out.lt; clear XD hbk; have XD := Lib.hid hx; clear hx
  obtain ⟨p22, c22, rfl, o22, -, b22⟩ := m22.get
  replace H : Hold w2 _ ([ints 2 (Value.slice p22 l1.length c22) (l1)] ++ ([itsE 38 (Value.slice p4 r0.length c4) (r0)] ++ ([itsE 38 (Value.slice p3 r0.length c3) (r0)] ++ (([] : List It))))) := H.makeI o22 b22
  clear o22 b22 m22
  obtain ⟨z0, z1, z2, z3, z4, z5, z6, z7⟩ := (SlBk.below X.out H.below X.out.lt).all8
  dsimp only at z0 z1 z2 z3 z4 z5 z6 z7
  go_wp2_with fail
  clear z0 z1 z2 z3 z4 z5 z6 z7
  refine (slotsOfNodeI_any _ _ _ r0 _ _ (Hold.rdE_ (E := 38) (t := r0) (ao := p3) (n := r0.length) (cap := c3) (L1 := [ints 2 (Value.slice p22 l1.length c22) (l1)] ++ ([itsE 38 (Value.slice p4 r0.length c4) (r0)] ++ (([] : List It)))) (L2 := ([] : List It)) (by simpa only [List.append_assoc, List.nil_append] using H)) hlen).mono ?_
  rintro e w23' m23
  rw [HS2.out] at m23
  change Makes2 2 _ l2 0 _ _ at m23
  obtain ⟨_, _, -, -, -, hbk⟩ := m23.get
  have hx := XD.out.below hbk XD.out.lt; clear XD hbk; have XD := Lib.hid hx; clear hx
  obtain ⟨p23, c23, rfl, o23, -, b23⟩ := m23.get
  replace H : Hold w2 _ ([ints 2 (Value.slice p23 l2.length c23) (l2)] ++ ([ints 2 (Value.slice p22 l1.length c22) (l1)] ++ ([itsE 38 (Value.slice p4 r0.length c4) (r0)] ++ ([itsE 38 (Value.slice p3 r0.length c3) (r0)] ++ (([] : List It)))))) := H.makeI o23 b23
  clear o23 b23 m23
  obtain ⟨u0, u1, u2, u3, u4⟩ := desc_cells XD.out
  obtain ⟨-, -, -, z3, z4, z5, z6, z7⟩ := (SlBk.below X.out H.below X.out.lt).all8
  dsimp only at z3 z4 z5 z6 z7
  have n5 := fun w => desc_eql_self y0 y1 y2 y3 y4 w
  have hle : ((l2.length : Int) == (l1.length : Int) + 1) = true := by rw [HLN.out]; simp
  go_wp2_with fail
  refine (isSlsI_any _ _ _ r0 _ (Hold.rdE_ (E := 38) (t := r0) (ao := p3) (n := r0.length) (cap := c3) (L1 := [ints 2 (Value.slice p23 l2.length c23) (l2)] ++ ([ints 2 (Value.slice p22 l1.length c22) (l1)] ++ ([itsE 38 (Value.slice p4 r0.length c4) (r0)] ++ (([] : List It))))) (L2 := ([] : List It)) (by simpa only [List.append_assoc, List.nil_append] using H)) hlen).mono ?_
  rintro e w24' ⟨rfl, b24⟩
  replace H := H.still b24
  clear b24
  rw [HIR.out]
  clear u0 u1 u2 u3 u4 z3 z4 z5 z6 z7 n5
  go_wp2_with fail
  go_ret
  exact ⟨rfl, HB.out.trans (H.below.mono HB.out.size)⟩


end Go.Proofs.Ytggnoeeaoligdaa.fnInserted
