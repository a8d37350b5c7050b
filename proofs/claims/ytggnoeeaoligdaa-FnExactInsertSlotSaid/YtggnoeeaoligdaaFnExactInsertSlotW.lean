/-
  The walk of laws.FnExactInsertSlot: at every input it returns true and writes nothing that was there.
-/
import Derived.Test.YtggnoeeaoligdaaRows
import Derived.Test.YtggnoeeaoligdaaP3
import Derived.Test.YtggnoeeaoligdaaSY
import Derived.Test.YtggnoeeaoligdaaSZ
import Derived.Test.YtggnoeeaoligdaaSV
import Derived.Test.YtggnoeeaoligdaaOpenSl
import Derived.WalkKit
import Derived.ProofKit
import Derived.OpenShut
import Derived.ShutString
import Derived.ChangeOld
import Derived.Below
import Derived.Lib.SmallJoins
namespace Go.Proofs.Ytggnoeeaoligdaa.fnExactInsertSlot
open Go.ChangeShapes Go.WideShapes Go.ChangeAt Go.RowKit Go.Joins
open Go.ChangeMaps (open_string shut_string)
set_option linter.unusedVariables false
set_option maxRecDepth 100000 in set_option maxHeartbeats 4000000 in set_option linter.unnecessarySimpa false in set_option linter.unusedSimpArgs false in
theorem walk (a0 : Option Addr) (len0 cap0 : Nat) (e0 : List Sl) (y1 : Sl) (w : World) (w0 : SlRow w a0 len0 cap0 e0) (w1 : slWf y1) :
    Calls Try.prog 11 #[.slice a0 len0 cap0, slVal y1] w fun e w' => e = .returned (.bool true) ∧ Below w.heap.size w w' := by
  obtain ⟨hcap0, hmax0, hr0, hwf0⟩ := w0
  clear hwf0
  obtain rfl : e0.length = len0 := hr0.len
  have hm0 : cap0 ≤ 9223372036854775807 := by unfold maxLen at hmax0; omega
  have hsz0 := fun W => szSlots_any a0 e0.length cap0 e0 W rfl (by omega)
  have HSZ0 := Lib.hid hsz0; clear hsz0 hmax0
  by_cases hneg : szL e0 1048576 < 0
  · go_enter Try.func11, Try.ntmps11
    go_wp2_with fail
    refine (HSZ0.out _).mono ?_
    rintro e w1 ⟨rfl, rfl⟩
    generalize szL e0 1048576 = left at hneg ⊢
    go_wp2_with fail
    go_ret
    exact ⟨rfl, (Below.refl _ _).alloc (Nat.le_refl _) _⟩
  have hbig0 : e0.length ≤ 1048576 := szL_ok (by omega)
  obtain ⟨r0, r1, hF⟩ : ∃ r0 r1, insertSlot e0 y1 = (r0, r1) := ⟨_, _, rfl⟩
  have hlen : r0.length ≤ 1048576 := by have h := insertSlot_small e0 y1; rw [hF] at h; exact h
  have HF := Lib.hid hF; clear hF
  have HY := Lib.hid (SlBk.new (T := 65) (x := y1) w)
  have hb0 := (Below.refl w.heap.size w).alloc (Nat.le_refl _) (.cells #[.int .i64 y1.mode, .int .i64 y1.round, .int .i64 y1.slot, .int .i64 y1.desc.node, .int .i64 y1.desc.kind, .int .i64 y1.desc.size, .int .i64 y1.desc.dur, .bool y1.desc.chg] 65)
  replace hr0 := hr0.below hb0
  have HB0 := Lib.hid hb0; clear hb0
  unfold slVal
  go_enter Try.func11, Try.ntmps11
  go_upto_region 1 with fail
  generalize w.alloc (.cells #[.int .i64 y1.mode, .int .i64 y1.round, .int .i64 y1.slot, .int .i64 y1.desc.node, .int .i64 y1.desc.kind, .int .i64 y1.desc.size, .int .i64 y1.desc.dur, .bool y1.desc.chg] 65) = w1 at HY HB0 hr0 ⊢
  have H : Hold w1 w1 [] := Hold.start
  have HTY := Lib.hid (fun W => toSlot_any y1 W)
  unfold slVal at HTY
  have HCS := Lib.hid (fun p n c t W => insertSlotS_any p n c t y1 W)
  unfold slVal at HCS
  have HCI := Lib.hid (fun p n c t W => insertSlotI_any p n c t y1 W)
  unfold slVal at HCI
  go_wp2_with fail
  refine (HSZ0.out _).mono ?_
  rintro e w1' ⟨rfl, rfl⟩
  clear HSZ0
  generalize szL e0 1048576 = left at hneg ⊢
  go_upto_region 5 with fail
  have HR2 := Lib.hid (H.still (Below.drew (Below.refl _ _))); clear H
  go_region_held3 (fun w' => w'.cell? ⟨w.heap.size, 0, none⟩ = some (Value.int .i64 y1.mode) ∧ w'.cell? ⟨w.heap.size, 1, none⟩ = some (Value.int .i64 y1.round) ∧ w'.cell? ⟨w.heap.size, 2, none⟩ = some (Value.int .i64 y1.slot) ∧ w'.cell? ⟨w.heap.size, 3, none⟩ = some (Value.int .i64 y1.desc.node) ∧ w'.cell? ⟨w.heap.size, 4, none⟩ = some (Value.int .i64 y1.desc.kind) ∧ w'.cell? ⟨w.heap.size, 5, none⟩ = some (Value.int .i64 y1.desc.size) ∧ w'.cell? ⟨w.heap.size, 6, none⟩ = some (Value.int .i64 y1.desc.dur) ∧ w'.cell? ⟨w.heap.size, 7, none⟩ = some (Value.bool y1.desc.chg))
    (first | exact (SlBk.below HY.out HR2.out.below HY.out.lt).all8 | exact (SlBk.below HY.out HR3.out.below HY.out.lt).all8 | exact (SlBk.below HY.out HR4.out.below HY.out.lt).all8 | exact (SlBk.below HY.out HR5.out.below HY.out.lt).all8)
    (first
      | (go_at_call 41; have RR := hr0.below HR2.out.below; (with_reducible refine (toSlots_any _ _ _ _ _ RR hbig0).mono ?_); clear RR; rintro e w3' m3; obtain ⟨p3, c3, rfl, o3, -, b3⟩ := m3.get; have HR3 : Hid (Hold w1 _ ([itsE 38 (Value.slice p3 e0.length c3) (e0)] ++ (([] : List It)))) := Lib.hid (HR2.out.makeE o3 b3); clear o3 b3 m3)
      | (go_at_call 50; (with_reducible refine (HTY.out _).mono ?_); rintro e w4' ⟨rfl, b4⟩; have HR4 := Lib.hid (HR3.out.still b4); clear b4)
      | (go_at_call 30; have RR := (Hold.rdE_ (E := 38) (t := e0) (ao := p3) (n := e0.length) (cap := c3) (L1 := ([] : List It)) (L2 := ([] : List It)) (by simpa only [List.append_assoc, List.nil_append] using HR4.out)); (with_reducible refine (HCS.out _ _ _ _ _ RR hbig0).mono ?_); clear RR; rintro e w5' m5; rw [HF.out] at m5; change MakesE2 38 _ r0 r1 _ _ at m5; obtain ⟨p5, c5, rfl, o5, -, b5⟩ := m5.get; have HR5 : Hid (Hold w1 _ ([itsE 38 (Value.slice p5 r0.length c5) (r0)] ++ ([itsE 38 (Value.slice p3 e0.length c3) (e0)] ++ (([] : List It))))) := Lib.hid (HR4.out.makeE o5 b5); clear o5 b5 m5))
  have H := HR5.out
  clear HR2 HR3 HR4 HR5
  go_wp2_with fail
  refine (toSlots_any _ _ _ _ _ (hr0.below H.below) hbig0).mono ?_
  rintro e w6' m6
  obtain ⟨p6, c6, rfl, o6, -, b6⟩ := m6.get
  replace H : Hold w1 _ ([itsE 38 (Value.slice p6 e0.length c6) (e0)] ++ ([itsE 38 (Value.slice p5 r0.length c5) (r0)] ++ ([itsE 38 (Value.slice p3 e0.length c3) (e0)] ++ (([] : List It))))) := H.makeE o6 b6
  clear o6 b6 m6
  obtain ⟨z0, z1, z2, z3, z4, z5, z6, z7⟩ := (SlBk.below HY.out H.below HY.out.lt).all8
  go_wp2_with fail
  clear z0 z1 z2 z3 z4 z5 z6 z7
  refine (HTY.out _).mono ?_
  rintro e w7' ⟨rfl, b7⟩
  replace H := H.still b7
  clear b7
  go_wp2_with fail
  have RR := (Hold.rdE_ (E := 38) (t := e0) (ao := p6) (n := e0.length) (cap := c6) (L1 := ([] : List It)) (L2 := [itsE 38 (Value.slice p5 r0.length c5) (r0)] ++ ([itsE 38 (Value.slice p3 e0.length c3) (e0)] ++ (([] : List It)))) (by simpa only [List.append_assoc, List.nil_append] using H))
  refine (HCI.out _ _ _ _ _ RR hbig0 (OwnE.cap (Hold.getE_ (E := 38) (t := e0) (v := Value.slice p6 e0.length c6) (L1 := ([] : List It)) (L2 := [itsE 38 (Value.slice p5 r0.length c5) (r0)] ++ ([itsE 38 (Value.slice p3 e0.length c3) (e0)] ++ (([] : List It)))) (by simpa only [List.append_assoc, List.nil_append] using H))).1 (OwnE.cap (Hold.getE_ (E := 38) (t := e0) (v := Value.slice p6 e0.length c6) (L1 := ([] : List It)) (L2 := [itsE 38 (Value.slice p5 r0.length c5) (r0)] ++ ([itsE 38 (Value.slice p3 e0.length c3) (e0)] ++ (([] : List It)))) (by simpa only [List.append_assoc, List.nil_append] using H))).2).mono ?_
  clear RR
  rintro e w8' m8
  rw [HF.out] at m8
  change MakesE2 38 _ r0 r1 _ _ at m8
  obtain ⟨p8, c8, rfl, o8, -, b8⟩ := m8.get
  replace H : Hold w1 _ ([itsE 38 (Value.slice p8 r0.length c8) (r0)] ++ ([itsE 38 (Value.slice p6 e0.length c6) (e0)] ++ ([itsE 38 (Value.slice p5 r0.length c5) (r0)] ++ ([itsE 38 (Value.slice p3 e0.length c3) (e0)] ++ (([] : List It)))))) := H.makeE o8 b8
  clear o8 b8 m8
  go_wp2_with fail
  refine (eqSlots_yes _ _ _ _ _ _ _ (Hold.rdE_ (E := 38) (t := r0) (ao := p8) (n := r0.length) (cap := c8) (L1 := ([] : List It)) (L2 := [itsE 38 (Value.slice p6 e0.length c6) (e0)] ++ ([itsE 38 (Value.slice p5 r0.length c5) (r0)] ++ ([itsE 38 (Value.slice p3 e0.length c3) (e0)] ++ (([] : List It))))) (by simpa only [List.append_assoc, List.nil_append] using H)) (Hold.rdE_ (E := 38) (t := r0) (ao := p5) (n := r0.length) (cap := c5) (L1 := [itsE 38 (Value.slice p8 r0.length c8) (r0)] ++ ([itsE 38 (Value.slice p6 e0.length c6) (e0)] ++ (([] : List It)))) (L2 := [itsE 38 (Value.slice p3 e0.length c3) (e0)] ++ (([] : List It))) (by simpa only [List.append_assoc, List.nil_append] using H)) (by omega) (OwnE.cap (Hold.getE_ (E := 38) (t := r0) (v := Value.slice p8 r0.length c8) (L1 := ([] : List It)) (L2 := [itsE 38 (Value.slice p6 e0.length c6) (e0)] ++ ([itsE 38 (Value.slice p5 r0.length c5) (r0)] ++ ([itsE 38 (Value.slice p3 e0.length c3) (e0)] ++ (([] : List It))))) (by simpa only [List.append_assoc, List.nil_append] using H))).1 (OwnE.cap (Hold.getE_ (E := 38) (t := r0) (v := Value.slice p5 r0.length c5) (L1 := [itsE 38 (Value.slice p8 r0.length c8) (r0)] ++ ([itsE 38 (Value.slice p6 e0.length c6) (e0)] ++ (([] : List It)))) (L2 := [itsE 38 (Value.slice p3 e0.length c3) (e0)] ++ (([] : List It))) (by simpa only [List.append_assoc, List.nil_append] using H))).1).mono ?_
  rintro e w9' ⟨rfl, b9⟩
  replace H := H.still b9
  clear b9
  go_wp2_with fail
  refine (toSlots_any _ _ _ _ _ (hr0.below H.below) hbig0).mono ?_
  rintro e w10' m10
  obtain ⟨p10, c10, rfl, o10, -, b10⟩ := m10.get
  replace H : Hold w1 _ ([itsE 38 (Value.slice p10 e0.length c10) (e0)] ++ ([itsE 38 (Value.slice p8 r0.length c8) (r0)] ++ ([itsE 38 (Value.slice p6 e0.length c6) (e0)] ++ ([itsE 38 (Value.slice p5 r0.length c5) (r0)] ++ ([itsE 38 (Value.slice p3 e0.length c3) (e0)] ++ (([] : List It))))))) := H.makeE o10 b10
  clear o10 b10 m10
  go_wp2_with fail
  refine (eqSlots_yes _ _ _ _ _ _ _ (Hold.rdE_ (E := 38) (t := e0) (ao := p6) (n := e0.length) (cap := c6) (L1 := [itsE 38 (Value.slice p10 e0.length c10) (e0)] ++ ([itsE 38 (Value.slice p8 r0.length c8) (r0)] ++ (([] : List It)))) (L2 := [itsE 38 (Value.slice p5 r0.length c5) (r0)] ++ ([itsE 38 (Value.slice p3 e0.length c3) (e0)] ++ (([] : List It)))) (by simpa only [List.append_assoc, List.nil_append] using H)) (Hold.rdE_ (E := 38) (t := e0) (ao := p10) (n := e0.length) (cap := c10) (L1 := ([] : List It)) (L2 := [itsE 38 (Value.slice p8 r0.length c8) (r0)] ++ ([itsE 38 (Value.slice p6 e0.length c6) (e0)] ++ ([itsE 38 (Value.slice p5 r0.length c5) (r0)] ++ ([itsE 38 (Value.slice p3 e0.length c3) (e0)] ++ (([] : List It)))))) (by simpa only [List.append_assoc, List.nil_append] using H)) (by omega) (OwnE.cap (Hold.getE_ (E := 38) (t := e0) (v := Value.slice p6 e0.length c6) (L1 := [itsE 38 (Value.slice p10 e0.length c10) (e0)] ++ ([itsE 38 (Value.slice p8 r0.length c8) (r0)] ++ (([] : List It)))) (L2 := [itsE 38 (Value.slice p5 r0.length c5) (r0)] ++ ([itsE 38 (Value.slice p3 e0.length c3) (e0)] ++ (([] : List It)))) (by simpa only [List.append_assoc, List.nil_append] using H))).1 (OwnE.cap (Hold.getE_ (E := 38) (t := e0) (v := Value.slice p10 e0.length c10) (L1 := ([] : List It)) (L2 := [itsE 38 (Value.slice p8 r0.length c8) (r0)] ++ ([itsE 38 (Value.slice p6 e0.length c6) (e0)] ++ ([itsE 38 (Value.slice p5 r0.length c5) (r0)] ++ ([itsE 38 (Value.slice p3 e0.length c3) (e0)] ++ (([] : List It)))))) (by simpa only [List.append_assoc, List.nil_append] using H))).1).mono ?_
  rintro e w11' ⟨rfl, b11⟩
  replace H := H.still b11
  clear b11
  go_wp2_with fail
  refine (markSlots_any _ _ _ _ _ _ _ rfl (Hold.getE_ (E := 38) (t := e0) (v := Value.slice p6 e0.length c6) (L1 := [itsE 38 (Value.slice p10 e0.length c10) (e0)] ++ ([itsE 38 (Value.slice p8 r0.length c8) (r0)] ++ (([] : List It)))) (L2 := [itsE 38 (Value.slice p5 r0.length c5) (r0)] ++ ([itsE 38 (Value.slice p3 e0.length c3) (e0)] ++ (([] : List It)))) (by simpa only [List.append_assoc, List.nil_append] using H)) (by omega) (by omega) (by omega)).mono ?_
  rintro e w12' ⟨rfl, o12, g12⟩
  have h12 := Hold.markE_ (L1 := [itsE 38 (Value.slice p10 e0.length c10) (e0)] ++ ([itsE 38 (Value.slice p8 r0.length c8) (r0)] ++ (([] : List It)))) (L2 := [itsE 38 (Value.slice p5 r0.length c5) (r0)] ++ ([itsE 38 (Value.slice p3 e0.length c3) (e0)] ++ (([] : List It)))) (v := Value.slice p6 e0.length c6) (E := 38) (t := e0) (u := marksS (1) e0.length) (by simpa only [List.append_assoc, List.nil_append] using H) o12 g12
  replace H : Hold w1 w12' ([itsE 38 (Value.slice p10 e0.length c10) (e0)] ++ ([itsE 38 (Value.slice p8 r0.length c8) (r0)] ++ ([itsE 38 (Value.slice p6 e0.length c6) (marksS (1) e0.length)] ++ ([itsE 38 (Value.slice p5 r0.length c5) (r0)] ++ ([itsE 38 (Value.slice p3 e0.length c3) (e0)] ++ (([] : List It))))))) := by simpa only [List.append_assoc, List.nil_append] using h12
  clear h12 o12 g12
  go_wp2_with fail
  refine (eqSlots_yes _ _ _ _ _ _ _ (Hold.rdE_ (E := 38) (t := r0) (ao := p8) (n := r0.length) (cap := c8) (L1 := [itsE 38 (Value.slice p10 e0.length c10) (e0)] ++ (([] : List It))) (L2 := [itsE 38 (Value.slice p6 e0.length c6) (marksS (1) e0.length)] ++ ([itsE 38 (Value.slice p5 r0.length c5) (r0)] ++ ([itsE 38 (Value.slice p3 e0.length c3) (e0)] ++ (([] : List It))))) (by simpa only [List.append_assoc, List.nil_append] using H)) (Hold.rdE_ (E := 38) (t := r0) (ao := p5) (n := r0.length) (cap := c5) (L1 := [itsE 38 (Value.slice p10 e0.length c10) (e0)] ++ ([itsE 38 (Value.slice p8 r0.length c8) (r0)] ++ ([itsE 38 (Value.slice p6 e0.length c6) (marksS (1) e0.length)] ++ (([] : List It))))) (L2 := [itsE 38 (Value.slice p3 e0.length c3) (e0)] ++ (([] : List It))) (by simpa only [List.append_assoc, List.nil_append] using H)) (by omega) (OwnE.cap (Hold.getE_ (E := 38) (t := r0) (v := Value.slice p8 r0.length c8) (L1 := [itsE 38 (Value.slice p10 e0.length c10) (e0)] ++ (([] : List It))) (L2 := [itsE 38 (Value.slice p6 e0.length c6) (marksS (1) e0.length)] ++ ([itsE 38 (Value.slice p5 r0.length c5) (r0)] ++ ([itsE 38 (Value.slice p3 e0.length c3) (e0)] ++ (([] : List It))))) (by simpa only [List.append_assoc, List.nil_append] using H))).1 (OwnE.cap (Hold.getE_ (E := 38) (t := r0) (v := Value.slice p5 r0.length c5) (L1 := [itsE 38 (Value.slice p10 e0.length c10) (e0)] ++ ([itsE 38 (Value.slice p8 r0.length c8) (r0)] ++ ([itsE 38 (Value.slice p6 e0.length c6) (marksS (1) e0.length)] ++ (([] : List It))))) (L2 := [itsE 38 (Value.slice p3 e0.length c3) (e0)] ++ (([] : List It))) (by simpa only [List.append_assoc, List.nil_append] using H))).1).mono ?_
  rintro e w13' ⟨rfl, b13⟩
  replace H := H.still b13
  clear b13
  go_wp2_with fail
  refine (markSlots_any _ _ _ _ _ _ _ rfl (Hold.getE_ (E := 38) (t := r0) (v := Value.slice p8 r0.length c8) (L1 := [itsE 38 (Value.slice p10 e0.length c10) (e0)] ++ (([] : List It))) (L2 := [itsE 38 (Value.slice p6 e0.length c6) (marksS (1) e0.length)] ++ ([itsE 38 (Value.slice p5 r0.length c5) (r0)] ++ ([itsE 38 (Value.slice p3 e0.length c3) (e0)] ++ (([] : List It))))) (by simpa only [List.append_assoc, List.nil_append] using H)) (by omega) (by omega) (by omega)).mono ?_
  rintro e w14' ⟨rfl, o14, g14⟩
  have h14 := Hold.markE_ (L1 := [itsE 38 (Value.slice p10 e0.length c10) (e0)] ++ (([] : List It))) (L2 := [itsE 38 (Value.slice p6 e0.length c6) (marksS (1) e0.length)] ++ ([itsE 38 (Value.slice p5 r0.length c5) (r0)] ++ ([itsE 38 (Value.slice p3 e0.length c3) (e0)] ++ (([] : List It))))) (v := Value.slice p8 r0.length c8) (E := 38) (t := r0) (u := marksS (1) r0.length) (by simpa only [List.append_assoc, List.nil_append] using H) o14 g14
  replace H : Hold w1 w14' ([itsE 38 (Value.slice p10 e0.length c10) (e0)] ++ ([itsE 38 (Value.slice p8 r0.length c8) (marksS (1) r0.length)] ++ ([itsE 38 (Value.slice p6 e0.length c6) (marksS (1) e0.length)] ++ ([itsE 38 (Value.slice p5 r0.length c5) (r0)] ++ ([itsE 38 (Value.slice p3 e0.length c3) (e0)] ++ (([] : List It))))))) := by simpa only [List.append_assoc, List.nil_append] using h14
  clear h14 o14 g14
  go_wp2_with fail
  refine (heldSlots_yes _ _ _ _ _ (by have h := (Hold.rdE_ (E := 38) (t := marksS (1) r0.length) (ao := p8) (n := r0.length) (cap := c8) (L1 := [itsE 38 (Value.slice p10 e0.length c10) (e0)] ++ (([] : List It))) (L2 := [itsE 38 (Value.slice p6 e0.length c6) (marksS (1) e0.length)] ++ ([itsE 38 (Value.slice p5 r0.length c5) (r0)] ++ ([itsE 38 (Value.slice p3 e0.length c3) (e0)] ++ (([] : List It))))) (by simpa only [List.append_assoc, List.nil_append] using H)); rw [marksS_len] at h; exact h) (by omega) (by omega) (by omega)).mono ?_
  rintro e w15' ⟨rfl, b15⟩
  replace H := H.still b15
  clear b15
  go_upto_region 24 with fail
  have HR16 := Lib.hid (H.still (Below.drew (Below.refl _ _))); clear H
  go_region_held3 (fun w' => w'.cell? ⟨w.heap.size, 0, none⟩ = some (Value.int .i64 y1.mode) ∧ w'.cell? ⟨w.heap.size, 1, none⟩ = some (Value.int .i64 y1.round) ∧ w'.cell? ⟨w.heap.size, 2, none⟩ = some (Value.int .i64 y1.slot) ∧ w'.cell? ⟨w.heap.size, 3, none⟩ = some (Value.int .i64 y1.desc.node) ∧ w'.cell? ⟨w.heap.size, 4, none⟩ = some (Value.int .i64 y1.desc.kind) ∧ w'.cell? ⟨w.heap.size, 5, none⟩ = some (Value.int .i64 y1.desc.size) ∧ w'.cell? ⟨w.heap.size, 6, none⟩ = some (Value.int .i64 y1.desc.dur) ∧ w'.cell? ⟨w.heap.size, 7, none⟩ = some (Value.bool y1.desc.chg))
    (first | exact (SlBk.below HY.out HR16.out.below HY.out.lt).all8 | exact (SlBk.below HY.out HR17.out.below HY.out.lt).all8 | exact (SlBk.below HY.out HR18.out.below HY.out.lt).all8 | exact (SlBk.below HY.out HR19.out.below HY.out.lt).all8)
    (first
      | (go_at_call 41; have RR := hr0.below HR16.out.below; (with_reducible refine (toSlots_any _ _ _ _ _ RR hbig0).mono ?_); clear RR; rintro e w17' m17; obtain ⟨p17, c17, rfl, o17, -, b17⟩ := m17.get; have HR17 : Hid (Hold w1 _ ([itsE 38 (Value.slice p17 e0.length c17) (e0)] ++ ([itsE 38 (Value.slice p10 e0.length c10) (e0)] ++ ([itsE 38 (Value.slice p8 r0.length c8) (marksS (1) r0.length)] ++ ([itsE 38 (Value.slice p6 e0.length c6) (marksS (1) e0.length)] ++ ([itsE 38 (Value.slice p5 r0.length c5) (r0)] ++ ([itsE 38 (Value.slice p3 e0.length c3) (e0)] ++ (([] : List It))))))))) := Lib.hid (HR16.out.makeE o17 b17); clear o17 b17 m17)
      | (go_at_call 50; (with_reducible refine (HTY.out _).mono ?_); rintro e w18' ⟨rfl, b18⟩; have HR18 := Lib.hid (HR17.out.still b18); clear b18)
      | (go_at_call 29; have RR := (Hold.rdE_ (E := 38) (t := e0) (ao := p17) (n := e0.length) (cap := c17) (L1 := ([] : List It)) (L2 := [itsE 38 (Value.slice p10 e0.length c10) (e0)] ++ ([itsE 38 (Value.slice p8 r0.length c8) (marksS (1) r0.length)] ++ ([itsE 38 (Value.slice p6 e0.length c6) (marksS (1) e0.length)] ++ ([itsE 38 (Value.slice p5 r0.length c5) (r0)] ++ ([itsE 38 (Value.slice p3 e0.length c3) (e0)] ++ (([] : List It))))))) (by simpa only [List.append_assoc, List.nil_append] using HR18.out)); (with_reducible refine (HCI.out _ _ _ _ _ RR hbig0 (OwnE.cap (Hold.getE_ (E := 38) (t := e0) (v := Value.slice p17 e0.length c17) (L1 := ([] : List It)) (L2 := [itsE 38 (Value.slice p10 e0.length c10) (e0)] ++ ([itsE 38 (Value.slice p8 r0.length c8) (marksS (1) r0.length)] ++ ([itsE 38 (Value.slice p6 e0.length c6) (marksS (1) e0.length)] ++ ([itsE 38 (Value.slice p5 r0.length c5) (r0)] ++ ([itsE 38 (Value.slice p3 e0.length c3) (e0)] ++ (([] : List It))))))) (by simpa only [List.append_assoc, List.nil_append] using HR18.out))).1 (OwnE.cap (Hold.getE_ (E := 38) (t := e0) (v := Value.slice p17 e0.length c17) (L1 := ([] : List It)) (L2 := [itsE 38 (Value.slice p10 e0.length c10) (e0)] ++ ([itsE 38 (Value.slice p8 r0.length c8) (marksS (1) r0.length)] ++ ([itsE 38 (Value.slice p6 e0.length c6) (marksS (1) e0.length)] ++ ([itsE 38 (Value.slice p5 r0.length c5) (r0)] ++ ([itsE 38 (Value.slice p3 e0.length c3) (e0)] ++ (([] : List It))))))) (by simpa only [List.append_assoc, List.nil_append] using HR18.out))).2).mono ?_); clear RR; rintro e w19' m19; rw [HF.out] at m19; change MakesE2 38 _ r0 r1 _ _ at m19; obtain ⟨p19, c19, rfl, o19, -, b19⟩ := m19.get; have HR19 : Hid (Hold w1 _ ([itsE 38 (Value.slice p19 r0.length c19) (r0)] ++ ([itsE 38 (Value.slice p17 e0.length c17) (e0)] ++ ([itsE 38 (Value.slice p10 e0.length c10) (e0)] ++ ([itsE 38 (Value.slice p8 r0.length c8) (marksS (1) r0.length)] ++ ([itsE 38 (Value.slice p6 e0.length c6) (marksS (1) e0.length)] ++ ([itsE 38 (Value.slice p5 r0.length c5) (r0)] ++ ([itsE 38 (Value.slice p3 e0.length c3) (e0)] ++ (([] : List It)))))))))) := Lib.hid (HR18.out.makeE o19 b19); clear o19 b19 m19))
  have H := HR19.out
  clear HR16 HR17 HR18 HR19
  go_wp2_with fail
  refine (eqSlots_yes _ _ _ _ _ _ _ (Hold.rdE_ (E := 38) (t := r0) (ao := p19) (n := r0.length) (cap := c19) (L1 := ([] : List It)) (L2 := [itsE 38 (Value.slice p17 e0.length c17) (e0)] ++ ([itsE 38 (Value.slice p10 e0.length c10) (e0)] ++ ([itsE 38 (Value.slice p8 r0.length c8) (marksS (1) r0.length)] ++ ([itsE 38 (Value.slice p6 e0.length c6) (marksS (1) e0.length)] ++ ([itsE 38 (Value.slice p5 r0.length c5) (r0)] ++ ([itsE 38 (Value.slice p3 e0.length c3) (e0)] ++ (([] : List It)))))))) (by simpa only [List.append_assoc, List.nil_append] using H)) (Hold.rdE_ (E := 38) (t := r0) (ao := p5) (n := r0.length) (cap := c5) (L1 := [itsE 38 (Value.slice p19 r0.length c19) (r0)] ++ ([itsE 38 (Value.slice p17 e0.length c17) (e0)] ++ ([itsE 38 (Value.slice p10 e0.length c10) (e0)] ++ ([itsE 38 (Value.slice p8 r0.length c8) (marksS (1) r0.length)] ++ ([itsE 38 (Value.slice p6 e0.length c6) (marksS (1) e0.length)] ++ (([] : List It))))))) (L2 := [itsE 38 (Value.slice p3 e0.length c3) (e0)] ++ (([] : List It))) (by simpa only [List.append_assoc, List.nil_append] using H)) (by omega) (OwnE.cap (Hold.getE_ (E := 38) (t := r0) (v := Value.slice p19 r0.length c19) (L1 := ([] : List It)) (L2 := [itsE 38 (Value.slice p17 e0.length c17) (e0)] ++ ([itsE 38 (Value.slice p10 e0.length c10) (e0)] ++ ([itsE 38 (Value.slice p8 r0.length c8) (marksS (1) r0.length)] ++ ([itsE 38 (Value.slice p6 e0.length c6) (marksS (1) e0.length)] ++ ([itsE 38 (Value.slice p5 r0.length c5) (r0)] ++ ([itsE 38 (Value.slice p3 e0.length c3) (e0)] ++ (([] : List It)))))))) (by simpa only [List.append_assoc, List.nil_append] using H))).1 (OwnE.cap (Hold.getE_ (E := 38) (t := r0) (v := Value.slice p5 r0.length c5) (L1 := [itsE 38 (Value.slice p19 r0.length c19) (r0)] ++ ([itsE 38 (Value.slice p17 e0.length c17) (e0)] ++ ([itsE 38 (Value.slice p10 e0.length c10) (e0)] ++ ([itsE 38 (Value.slice p8 r0.length c8) (marksS (1) r0.length)] ++ ([itsE 38 (Value.slice p6 e0.length c6) (marksS (1) e0.length)] ++ (([] : List It))))))) (L2 := [itsE 38 (Value.slice p3 e0.length c3) (e0)] ++ (([] : List It))) (by simpa only [List.append_assoc, List.nil_append] using H))).1).mono ?_
  rintro e w20' ⟨rfl, b20⟩
  replace H := H.still b20
  clear b20
  go_wp2_with fail
  refine (heldSlots_yes _ _ _ _ _ (by have h := (Hold.rdE_ (E := 38) (t := marksS (1) r0.length) (ao := p8) (n := r0.length) (cap := c8) (L1 := [itsE 38 (Value.slice p19 r0.length c19) (r0)] ++ ([itsE 38 (Value.slice p17 e0.length c17) (e0)] ++ ([itsE 38 (Value.slice p10 e0.length c10) (e0)] ++ (([] : List It))))) (L2 := [itsE 38 (Value.slice p6 e0.length c6) (marksS (1) e0.length)] ++ ([itsE 38 (Value.slice p5 r0.length c5) (r0)] ++ ([itsE 38 (Value.slice p3 e0.length c3) (e0)] ++ (([] : List It))))) (by simpa only [List.append_assoc, List.nil_append] using H)); rw [marksS_len] at h; exact h) (by omega) (by omega) (by omega)).mono ?_
  rintro e w21' ⟨rfl, b21⟩
  replace H := H.still b21
  clear b21
  go_wp2_with fail
  go_ret
  exact ⟨rfl, below_two HB0.out H.below⟩
end Go.Proofs.Ytggnoeeaoligdaa.fnExactInsertSlot
