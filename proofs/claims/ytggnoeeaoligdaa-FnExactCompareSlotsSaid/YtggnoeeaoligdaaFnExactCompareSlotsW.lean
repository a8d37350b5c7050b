/-
  The walk of laws.FnExactCompareSlots: at every input it returns true and writes nothing that was there.
-/
import Derived.Test.YtggnoeeaoligdaaRows
import Derived.Test.YtggnoeeaoligdaaSK
import Derived.Test.YtggnoeeaoligdaaST
import Derived.Test.YtggnoeeaoligdaaOpenSl
import Derived.WalkKit
import Derived.ProofKit
import Derived.OpenShut
import Derived.ShutString
import Derived.ChangeOld
import Derived.Below
import Derived.Lib.SmallJoins
namespace Go.Proofs.Ytggnoeeaoligdaa.fnExactCompareSlots
open Go.ChangeShapes Go.WideShapes Go.ChangeAt Go.RowKit Go.Joins
open Go.ChangeMaps (open_string shut_string)
set_option linter.unusedVariables false
set_option maxRecDepth 100000 in set_option maxHeartbeats 4000000 in set_option linter.unnecessarySimpa false in set_option linter.unusedSimpArgs false in
theorem walk (y0 : Sl) (y1 : Sl) (w : World) (w0 : slWf y0) (w1 : slWf y1) :
    Calls Try.prog 12 #[slVal y0, slVal y1] w fun e w' => e = .returned (.bool true) ∧ Below w.heap.size w w' := by
  obtain ⟨r0, hF⟩ : ∃ r, cmpSl y0 y1 = r := ⟨_, rfl⟩
  have HF := Lib.hid hF; clear hF
  have hb0 := (Below.refl w.heap.size w).alloc (Nat.le_refl _) (.cells #[.int .i64 y0.mode, .int .i64 y0.round, .int .i64 y0.slot, .int .i64 y0.desc.node, .int .i64 y0.desc.kind, .int .i64 y0.desc.size, .int .i64 y0.desc.dur, .bool y0.desc.chg] 65)
  have hb1 := (Below.refl (w.alloc (.cells #[.int .i64 y0.mode, .int .i64 y0.round, .int .i64 y0.slot, .int .i64 y0.desc.node, .int .i64 y0.desc.kind, .int .i64 y0.desc.size, .int .i64 y0.desc.dur, .bool y0.desc.chg] 65)).heap.size (w.alloc (.cells #[.int .i64 y0.mode, .int .i64 y0.round, .int .i64 y0.slot, .int .i64 y0.desc.node, .int .i64 y0.desc.kind, .int .i64 y0.desc.size, .int .i64 y0.desc.dur, .bool y0.desc.chg] 65))).alloc (Nat.le_refl _) (.cells #[.int .i64 y1.mode, .int .i64 y1.round, .int .i64 y1.slot, .int .i64 y1.desc.node, .int .i64 y1.desc.kind, .int .i64 y1.desc.size, .int .i64 y1.desc.dur, .bool y1.desc.chg] 65)
  have hs : (w.alloc (.cells #[.int .i64 y0.mode, .int .i64 y0.round, .int .i64 y0.slot, .int .i64 y0.desc.node, .int .i64 y0.desc.kind, .int .i64 y0.desc.size, .int .i64 y0.desc.dur, .bool y0.desc.chg] 65)).heap.size = w.heap.size + 1 := by simp
  have h0 := (SlBk.new (T := 65) (x := y0) w).below hb1 (by simp)
  have h1 := SlBk.new (T := 65) (x := y1) (w.alloc (.cells #[.int .i64 y0.mode, .int .i64 y0.round, .int .i64 y0.slot, .int .i64 y0.desc.node, .int .i64 y0.desc.kind, .int .i64 y0.desc.size, .int .i64 y0.desc.dur, .bool y0.desc.chg] 65))
  rw [hs] at h1
  have HX0 := Lib.hid h0; have HX1 := Lib.hid h1; have HB0 := Lib.hid (below_two hb0 hb1)
  clear hb0 hb1 hs h0 h1
  have HT0 := Lib.hid (fun W => toSlot_any y0 W); have HT1 := Lib.hid (fun W => toSlot_any y1 W)
  have HCS := Lib.hid (fun W => cmpSlS_any y0 y1 W); have HCI := Lib.hid (fun W => cmpSlI_any y0 y1 W)
  unfold slVal at HT0 HT1 HCS HCI
  have hne : (r0 != r0) = false := bne_self_eq_false _
  unfold slVal
  go_enter Try.func12, Try.ntmps12
  go_upto_region 1 with fail
  generalize (w.alloc (.cells #[.int .i64 y0.mode, .int .i64 y0.round, .int .i64 y0.slot, .int .i64 y0.desc.node, .int .i64 y0.desc.kind, .int .i64 y0.desc.size, .int .i64 y0.desc.dur, .bool y0.desc.chg] 65)).alloc (.cells #[.int .i64 y1.mode, .int .i64 y1.round, .int .i64 y1.slot, .int .i64 y1.desc.node, .int .i64 y1.desc.kind, .int .i64 y1.desc.size, .int .i64 y1.desc.dur, .bool y1.desc.chg] 65) = w1 at HX0 HX1 HB0 ⊢
  have H1 := Lib.hid (Below.drew (Below.refl w1.heap.size w1))
  go_region_held3 (fun w' => w'.cell? ⟨w.heap.size, 0, none⟩ = some (Value.int .i64 y0.mode) ∧ w'.cell? ⟨w.heap.size, 1, none⟩ = some (Value.int .i64 y0.round) ∧ w'.cell? ⟨w.heap.size, 2, none⟩ = some (Value.int .i64 y0.slot) ∧ w'.cell? ⟨w.heap.size, 3, none⟩ = some (Value.int .i64 y0.desc.node) ∧ w'.cell? ⟨w.heap.size, 4, none⟩ = some (Value.int .i64 y0.desc.kind) ∧ w'.cell? ⟨w.heap.size, 5, none⟩ = some (Value.int .i64 y0.desc.size) ∧ w'.cell? ⟨w.heap.size, 6, none⟩ = some (Value.int .i64 y0.desc.dur) ∧ w'.cell? ⟨w.heap.size, 7, none⟩ = some (Value.bool y0.desc.chg) ∧ w'.cell? ⟨w.heap.size + 1, 0, none⟩ = some (Value.int .i64 y1.mode) ∧ w'.cell? ⟨w.heap.size + 1, 1, none⟩ = some (Value.int .i64 y1.round) ∧ w'.cell? ⟨w.heap.size + 1, 2, none⟩ = some (Value.int .i64 y1.slot) ∧ w'.cell? ⟨w.heap.size + 1, 3, none⟩ = some (Value.int .i64 y1.desc.node) ∧ w'.cell? ⟨w.heap.size + 1, 4, none⟩ = some (Value.int .i64 y1.desc.kind) ∧ w'.cell? ⟨w.heap.size + 1, 5, none⟩ = some (Value.int .i64 y1.desc.size) ∧ w'.cell? ⟨w.heap.size + 1, 6, none⟩ = some (Value.int .i64 y1.desc.dur) ∧ w'.cell? ⟨w.heap.size + 1, 7, none⟩ = some (Value.bool y1.desc.chg))
    (first | exact two16 H1.out HX0.out HX1.out | exact two16 H2.out HX0.out HX1.out | exact two16 H3.out HX0.out HX1.out | exact two16 H4.out HX0.out HX1.out)
    (first
      | (go_at_call 50; have HK := H1.out; clear H1; (first | (with_reducible refine (HT0.out _).mono ?_) | (with_reducible refine (HT1.out _).mono ?_)); rintro e w2' ⟨rfl, b2⟩; have H2 := Lib.hid (below_two HK b2); clear b2 HK)
      | (go_at_call 50; have HK := H2.out; clear H2; (first | (with_reducible refine (HT0.out _).mono ?_) | (with_reducible refine (HT1.out _).mono ?_)); rintro e w3' ⟨rfl, b3⟩; have H3 := Lib.hid (below_two HK b3); clear b3 HK)
      | (go_at_call 33; have HK := H3.out; clear H3; (first | (with_reducible refine (HCS.out _).mono ?_)); rintro e w4' ⟨rfl, b4⟩; rw [HF.out]; have H4 := Lib.hid (below_two HK b4); clear b4 HK))
  go_upto_region 2 with fail
  have H5 := Lib.hid (Below.drew H4.out); clear H4
  go_region_held3 (fun w' => w'.cell? ⟨w.heap.size, 0, none⟩ = some (Value.int .i64 y0.mode) ∧ w'.cell? ⟨w.heap.size, 1, none⟩ = some (Value.int .i64 y0.round) ∧ w'.cell? ⟨w.heap.size, 2, none⟩ = some (Value.int .i64 y0.slot) ∧ w'.cell? ⟨w.heap.size, 3, none⟩ = some (Value.int .i64 y0.desc.node) ∧ w'.cell? ⟨w.heap.size, 4, none⟩ = some (Value.int .i64 y0.desc.kind) ∧ w'.cell? ⟨w.heap.size, 5, none⟩ = some (Value.int .i64 y0.desc.size) ∧ w'.cell? ⟨w.heap.size, 6, none⟩ = some (Value.int .i64 y0.desc.dur) ∧ w'.cell? ⟨w.heap.size, 7, none⟩ = some (Value.bool y0.desc.chg) ∧ w'.cell? ⟨w.heap.size + 1, 0, none⟩ = some (Value.int .i64 y1.mode) ∧ w'.cell? ⟨w.heap.size + 1, 1, none⟩ = some (Value.int .i64 y1.round) ∧ w'.cell? ⟨w.heap.size + 1, 2, none⟩ = some (Value.int .i64 y1.slot) ∧ w'.cell? ⟨w.heap.size + 1, 3, none⟩ = some (Value.int .i64 y1.desc.node) ∧ w'.cell? ⟨w.heap.size + 1, 4, none⟩ = some (Value.int .i64 y1.desc.kind) ∧ w'.cell? ⟨w.heap.size + 1, 5, none⟩ = some (Value.int .i64 y1.desc.size) ∧ w'.cell? ⟨w.heap.size + 1, 6, none⟩ = some (Value.int .i64 y1.desc.dur) ∧ w'.cell? ⟨w.heap.size + 1, 7, none⟩ = some (Value.bool y1.desc.chg))
    (first | exact two16 H5.out HX0.out HX1.out | exact two16 H6.out HX0.out HX1.out | exact two16 H7.out HX0.out HX1.out | exact two16 H8.out HX0.out HX1.out)
    (first
      | (go_at_call 50; have HK := H5.out; clear H5; (first | (with_reducible refine (HT0.out _).mono ?_) | (with_reducible refine (HT1.out _).mono ?_)); rintro e w6' ⟨rfl, b6⟩; have H6 := Lib.hid (below_two HK b6); clear b6 HK)
      | (go_at_call 50; have HK := H6.out; clear H6; (first | (with_reducible refine (HT0.out _).mono ?_) | (with_reducible refine (HT1.out _).mono ?_)); rintro e w7' ⟨rfl, b7⟩; have H7 := Lib.hid (below_two HK b7); clear b7 HK)
      | (go_at_call 32; have HK := H7.out; clear H7; (first | (with_reducible refine (HCI.out _).mono ?_)); rintro e w8' ⟨rfl, b8⟩; rw [HF.out]; have H8 := Lib.hid (below_two HK b8); clear b8 HK))
  go_wp2_with fail
  go_ret
  exact ⟨rfl, below_two HB0.out H8.out⟩
end Go.Proofs.Ytggnoeeaoligdaa.fnExactCompareSlots
