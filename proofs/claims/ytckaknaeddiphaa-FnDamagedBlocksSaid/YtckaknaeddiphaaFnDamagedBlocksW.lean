/-
  The walk of laws.FnDamagedBlocks: at every input it returns true and writes nothing that was there.
-/
import Derived.Test.YtckaknaeddiphaaRows
import Derived.Test.YtckaknaeddiphaaKH
import Derived.Test.YtckaknaeddiphaaKF
import Derived.Test.YtckaknaeddiphaaKG
import Derived.Test.YtckaknaeddiphaaDrawA
import Derived.Test.YtckaknaeddiphaaLawC
import Derived.Test.YtckaknaeddiphaaSame
import Derived.WalkKit
import Derived.ProofKit
import Derived.OpenShut
import Derived.ShutString
import Derived.ChangeOld
import Derived.Below
namespace Go.Proofs.Ytckaknaeddiphaa.fnDamagedBlocks
open Go.ChangeShapes Go.WideShapes Go.ChangeAt Go.RowKit
open Go.ChangeMaps (open_string shut_string)
set_option linter.unusedVariables false


/-- WHAT THE WALK IS TOLD OF A SLICE OF INTEGERS THAT CAME IN: it is nil; or it leads to a row of 'cap' cells, the numbers 'zs' (the first 'len' are its elements, the rest its spare room), each fitting its kind. -/
def IsRow (k : IntKind) (w : World) (a : Option Addr) (len cap : Nat) (zs : List Int) : Prop :=
  (a = none ∧ len = 0 ∧ cap = 0 ∧ zs = []) ∨
  ∃ x, a = some x ∧ len ≤ cap ∧ cap ≤ maxLen ∧ zs.length = cap ∧ (∀ i, i < zs.length → w.cell? (x.add i) = some (.int k (zs.getD i 0))) ∧ ∀ n ∈ zs, (Lit.int k n).wf = true

/-! ### STEP 1: THE WALK: the Go text returns true, AND WRITES NOTHING THAT WAS THERE: 'Below w.heap.size w w'' (Derived/Below.lean: '.refl', '.alloc', '.drew', '.setCell' at a new block, '.trans'). Open each 'IsRow' by 'rcases' AHEAD of 'go_enter'; part every test ahead of the walk. -/
set_option linter.unusedVariables false in set_option maxHeartbeats 2000000 in set_option maxRecDepth 100000 in
theorem walk (a0 : Option Addr) (len0 cap0 : Nat) (z0 : List Int) (w : World) (w0 : IsRow .u8 w a0 len0 cap0 z0) :
    Calls Try.prog 5 #[.slice a0 len0 cap0] w fun e w' => e = .returned (.bool true) ∧ Below w.heap.size w w' := by
  have hr := rdB_of_row w0
  clear w0
  generalize List.take len0 z0 = cs at hr
  have HR := Lib.hid hr; clear hr
  by_cases hbig : len0 ≤ 4096
  rotate_left
  · go_enter Try.func5, Try.ntmps5
    go_wp2_with fail
    refine (big_yes _ _ _ _ hbig).mono ?_
    rintro e w' ⟨rfl, rfl⟩
    go_wp2
    go_ret
    exact ⟨rfl, Below.refl _ _⟩
  go_enter Try.func5, Try.ntmps5
  go_wp2_with fail
  refine (big_no _ _ _ _ hbig).mono ?_
  rintro e w' ⟨rfl, rfl⟩
  go_wp2_with fail
  refine (drawBlockOfByte_any _ _ _ cs _ HR.out (by omega)).mono ?_
  rintro e w2 ⟨x, y, rfl, hx0, hx1, b1⟩
  obtain ⟨n, rfl⟩ := Int.eq_ofNat_of_zero_le hx0
  obtain ⟨r0, c0, hF⟩ : ∃ r0 c0, blockOfByte (n : Int) y = (r0, c0) := ⟨_, _, rfl⟩
  have HF := Lib.hid hF; clear hF
  go_wp2_with fail
  refine (blockOfByte_any _ _ _).mono ?_
  rintro e w' ⟨rfl, rfl⟩
  rw [HF.out]
  go_wp2_with fail
  refine (sBlockOfByte_any _ _ _).mono ?_
  rintro e w' ⟨rfl, rfl⟩
  rw [HF.out]
  by_cases hcode : c0 = 0
  rotate_left
  · have t1 : (c0 != 0) = true := by simp [hcode]
    clear hcode
    go_wp2_with fail
    go_ret
    exact ⟨rfl, b1⟩
  subst hcode
  obtain ⟨-, hr0, hkb⟩ := byte_block HF.out
  obtain ⟨kk, rfl⟩ := Int.eq_ofNat_of_zero_le hr0
  simp only [Int.toNat_natCast] at hkb
  have hn2 : n < 200 := by omega
  have HKB := Lib.hid hkb
  clear hx0 hx1 hr0 hkb HF
  go_wp2_with fail
  refine (roll_any _ _ _ cs _ _ (rdB_grow HR.out b1) (by omega)).mono ?_
  rintro e w3 ⟨d, rfl, hd, hs3, b3⟩
  have D3 : HeldD 2 61 w2 w3 d [] := HeldD.start b3 hd hs3
  have B1 := Lib.hid b1
  have D0 := Lib.hid (D3.make (Own.of_alloc_nil (Nat.le_refl _)) ((Below.refl _ _).alloc (Nat.le_refl _) _))
  clear b1 hd hs3 b3 D3 HR
  go_wp2
  go_loopw [10, 11] (fun v i wr => ∃ (k : Nat) (az : List Int), k ≤ n ∧ i = .int .i64 k ∧ Hid (az.length = k ∧ ∀ a ∈ az, 0 ≤ a ∧ a ≤ 255) ∧ HeldD 2 61 w2 wr d [(v, az)]) (fun _ i _ => n - (intOf i).toNat)
  case atStart => exact ⟨0, [], Nat.zero_le _, rfl, ⟨rfl, fun _ h => by cases h⟩, D0.out⟩
  case round =>
    clear D0
    obtain ⟨k, az, hk, rfl, HA, D⟩ := hrel
    by_cases hlt : k < n
    · obtain ⟨pa0, ca0, rfl, oa0, ra0⟩ := (D.get 0 rfl).get
      clear oa0 ra0
      have D1 := Lib.hid D; clear D
      have hl1 : az.length ≤ 4294967296 := by rw [HA.out.1]; omega
      have HL1 := Lib.hid hl1; clear hl1
      have hal := fun ob => ((Below.refl wr.heap.size wr).alloc (Nat.le_refl _) ob)
      have HAL := Lib.hid hal; clear hal
      go_wp2_with fail
      refine (below_any d 256 _ D1.out.dice (by omega) (by omega)).mono ?_
      rintro e w4 ⟨y4, rfl, hy0, hy1, hs4, g4⟩
      have D2 := Lib.hid (D1.out.throw_ hs4 g4)
      clear D1 hs4 g4 HAL
      have hsz2 := D2.out.dice.lt
      go_wp2_with (at_builtin; refine append_push _ rfl (.tmp 60) (.tmp 63) rfl (d + 1) Try.underlying24 info64 _ az rfl ((D2.out.get 0 rfl).below ((Below.refl _ _).alloc (Nat.le_refl _) _)) _ _ _ rfl (new_cell rfl) HL1.out (by simp; omega) ?_; intro va' w5 o5 g5 hb5)
      have D4 := Lib.hid ((D2.out.still ((Below.refl _ _).alloc (Nat.le_refl _) _)).push [] o5 g5 hb5)
      go_roundw
      case rel =>
        refine ⟨k + 1, az ++ [y4], by omega, by go_num, ⟨by rw [List.length_append, HA.out.1]; rfl, fun a ha => ?_⟩, D4.out⟩
        rcases List.mem_append.1 ha with ha | ha
        · exact HA.out.2 a ha
        · rw [List.mem_singleton] at ha; omega
      case measure => simp [intOf]; omega
    · have hkn : k = n := by omega
      subst hkn
      obtain ⟨p4, c4, rfl, -, -⟩ := (D.get 0 rfl).get
      rw [HA.out.1] at D ⊢
      have hby : isBytes az = true := isBytes_iff.2 ⟨by rw [HA.out.1]; omega, HA.out.2⟩
      have h8 : az.length ≤ 868 := by rw [HA.out.1]; omega
      obtain ⟨img, himg⟩ : ∃ img, image9 az = img := ⟨_, rfl⟩
      have hio : imageOf az = (img, 0) := by unfold imageOf; rw [if_neg (by rw [hby]; simp), if_neg (by omega), himg]
      have hkb : kk < blocksOf az.length := by rw [HA.out.1]; exact HKB.out
      have him : isBytes img = true := by rw [← himg]; exact image_bytes hby h8
      have hil := image_len az
      have h31 := blocks_31 h8
      have hsl := (image_slices az).2
      rw [himg] at hil hsl
      have h33 : 33 * kk < img.length := by omega
      have hat : blockAt img (kk : Int) = (sliceOf img kk, 0) := by
        unfold blockAt
        rw [if_neg (by rw [him]; simp), if_pos (by omega)]
        simp
      have hbl := slice_len img kk
      obtain ⟨bl, hbe⟩ : ∃ bl, sliceOf img kk = bl := ⟨_, rfl⟩
      rw [hbe] at hat hbl
      have hfin : Hid (∀ ws t, Wrong9 img ws kk t → t ≤ 3 → ws = img ∨ damaged9 ws = [kk]) := fun ws t h ht => by
        rw [← himg] at h ⊢
        exact Wrong9.fin h ht hby h8 hkb
      have hstart : Hid (Wrong9 img img kk 0) := Wrong9.start (isBytes_iff.1 him).2
      have HIO := Lib.hid hio; have HAT := Lib.hid hat; have HBE := Lib.hid hbe
      have HIL := Lib.hid (show img.length ≤ 1048576 ∧ img.length ≤ 1024 ∧ 0 < img.length by omega)
      have HBL := Lib.hid (show bl.length ≤ 33 ∧ 1 ≤ bl.length ∧ 33 * kk + bl.length ≤ img.length ∧ kk < 40 by omega)
      have D4 := Lib.hid D
      have hazl := HA.out.1
      clear hby h8 himg hio hkb him hil h31 hsl h33 hat hbl hbe D HKB hlt hk HA
      go_wp2_with fail
      have hcon := sImageOf_any p4 c4 az wr (D4.out.rd 0 rfl hazl |> fun h => hazl.symm ▸ h) (by omega) (by rw [hazl]; exact (D4.out.cap_ 0 rfl).1) (D4.out.cap_ 0 rfl).2
      rw [hazl, HIO.out] at hcon
      refine hcon.mono ?_
      clear hcon
      rintro e w5 m5
      change Makes2 2 _ img 0 _ _ at m5
      obtain ⟨p5, c5, rfl, o5, -, b5⟩ := m5.get
      have D5 := Lib.hid (D4.out.make o5 b5)
      clear o5 b5 m5 D4
      go_wp2_with fail
      refine (sBlockAt_any _ _ _ _ _ (D5.out.rd 0 rfl rfl) HIL.out.1 (D5.out.cap_ 0 rfl).1 (D5.out.cap_ 0 rfl).2).mono ?_
      rintro e w6 m6
      rw [HAT.out] at m6
      change Makes2 2 _ bl 0 _ _ at m6
      obtain ⟨p6, c6, rfl, o6, -, b6⟩ := m6.get
      have D6 := Lib.hid (D5.out.make o6 b6)
      clear o6 b6 m6 D5
      go_wp2_with fail
      refine (blockAt_any _ _ _ _ _ (D6.out.rd 1 rfl rfl) HIL.out.1 (D6.out.cap_ 1 rfl).1 (D6.out.cap_ 1 rfl).2).mono ?_
      rintro e w7 m7
      rw [HAT.out] at m7
      change Makes2 2 _ bl 0 _ _ at m7
      obtain ⟨p7, c7, rfl, o7, -, b7⟩ := m7.get
      have D7 := Lib.hid (D6.out.make o7 b7)
      clear o7 b7 m7 D6
      have R5 := Lib.hid ((D7.out.rd 2 rfl rfl).below ((Below.refl w7.heap.size w7).alloc (Nat.le_refl _) (.cells #[] 2)))
      go_wp2_with (at_builtin; refine append_list _ rfl (.tmp 82) (.tmp 83) rfl w7.heap.size Try.underlying24 info64 _ [] rfl (Own.of_alloc_nil (Nat.le_refl _)) _ _ _ img rfl R5.out (by have := HIL.out; simp; omega) (by simp) ?_; intro v8 w8 o8 b8)
      rw [List.nil_append] at o8
      obtain ⟨p8, c8, rfl, o8, -⟩ := o8.get
      obtain ⟨g, rfl⟩ := own_block9 o8 HIL.out.2.2
      have D8 := Lib.hid (D7.out.make o8 (((Below.refl _ _).alloc (Nat.le_refl _) _).trans b8))
      clear o8 b8 D7 R5
      go_wp2
      go_loopw [19] (fun i wr => ∃ (t : Nat) (ws : List Int), t ≤ 3 ∧ i = .int .i64 t ∧ Hid (Wrong9 img ws kk t) ∧ HeldD 2 61 w2 wr d ((Value.slice (some ⟨g, 0, none⟩) img.length c8, ws) :: [(Value.slice p7 bl.length c7, bl), (Value.slice p6 bl.length c6, bl), (Value.slice p5 img.length c5, img), (Value.slice p4 k c4, az)])) (fun i _ => 3 - (intOf i).toNat)
      case atStart => exact ⟨0, img, Nat.zero_le _, rfl, hstart, D8.out⟩
      case round =>
        clear D8 hstart
        obtain ⟨t, ws, ht, rfl, HB, D⟩ := hrel
        by_cases hlt : t < 3
        · skip
          have D1 := Lib.hid D; clear D
          obtain ⟨hb1, hb2, hb3, hb4⟩ := HBL.out
          have hil2 := HIL.out.2.1
          go_wp2_with fail
          refine (below_any d (bl.length : Int) _ D1.out.dice (by omega) (by omega)).mono ?_
          rintro e w8 ⟨x, rfl, x0, x1, hs8, g8⟩
          have D2 := Lib.hid (D1.out.throw_ hs8 g8)
          clear hs8 g8 D1
          obtain ⟨j, rfl⟩ := Int.eq_ofNat_of_zero_le x0
          obtain ⟨p, hp⟩ : ∃ p, 33 * kk + j = p := ⟨_, rfl⟩
          have hp2 : p < img.length := by omega
          have hj : j < bl.length := by omega
          have hpe : (kk : Int) * 33 + (j : Int) = (p : Int) := by omega
          clear x0 x1
          go_upto_region 24 with fail
          obtain ⟨hwl, hwb, -, -⟩ := HB.out
          have hp3 : (p : Int) < (img.length : Int) := by omega
          have hvm : ws.getD p 0 ∈ ws := by
            simp only [List.getD, List.getElem?_eq_getElem (show p < ws.length by omega), Option.getD_some]
            exact List.getElem_mem _
          have hvb := hwb _ hvm
          obtain ⟨v, hve⟩ := Int.eq_ofNat_of_zero_le hvb.1
          have hv : v < 256 := by omega
          have hvc : ws.getD p 0 = (v : Int) := hve
          have hS : ∀ wz L, HeldD 2 61 w2 wz d ((Value.slice (some ⟨g, 0, none⟩) img.length c8, ws) :: L) → wz.cell? ⟨g, p, none⟩ = some (.int .i64 (v : Int)) := fun wz L h => by
            have h2 := h.cell hwl hp2
            rwa [hvc] at h2
          have D4 := Lib.hid (D2.out.still (Below.drew (Below.refl _ _)))
          have hW : ∀ b s, b < 2 → s < 8 → Hid (Wrong9 img (ws.set p ((v ^^^ (b <<< s) : Nat) : Int)) kk (t + 1)) := fun b s hb hs => by
            have h := HB.out.step (i := j) (x := v) (s := s) (b := b) (by rw [HBE.out]; exact hj) (by rw [hp]; exact hvc) hs hb
            rw [hp] at h
            exact h
          clear hwb hvm hvb hve hvc D2
          have ht3 : t + 1 ≤ 3 := by omega
          have hc4 := hS _ _ D4.out
          have hdc4 := D4.out.dice
          have HD4 := Lib.hid hdc4; clear hdc4
          go_region_with (first
            | (go_at_call 25; refine (below_any d 8 _ D5.out.dice (by omega) (by omega)).mono ?_; rintro e wb ⟨s, rfl, hs0, hs1, hsb, gb⟩; obtain ⟨s, rfl⟩ := Int.eq_ofNat_of_zero_le hs0; have D6 := Lib.hid (D5.out.throw_ hsb gb); clear hsb gb; have hc6 := hS _ _ D6.out; have hfz := D6.out.ice hwl hp2; have hb2 : b < 2 := (by omega); have hs2 : s < 8 := (by omega); have hsm := shift_min hs2; have hfl := flip_val v b s hv hs2 hb2; have HB2 := Lib.hid (hW b s hb2 hs2); have D7 := Lib.hid (D6.out.store hwl hp2 ((v ^^^ (b <<< s) : Nat) : Int)))
            | (go_at_call 25; refine (below_any d 2 _ HD4.out (by omega) (by omega)).mono ?_; rintro e wa ⟨b, rfl, hb0, hb1, hsa, ga⟩; obtain ⟨b, rfl⟩ := Int.eq_ofNat_of_zero_le hb0; have D5 := Lib.hid (D4.out.throw_ hsa ga); clear hsa ga; have hc5 := hS _ _ D5.out))
          all_goals
            go_wp2
            clear hfl hsm hfz hc6 hc5 hc4
            go_roundw
            case rel => exact ⟨t + 1, ws.set p ((v ^^^ (b <<< s) : Nat) : Int), ht3, by go_num, HB2.out, D7.out⟩
            case measure => simp [intOf]; omega
        · have ht3 : t = 3 := by omega
          subst ht3
          have hw9 := HB.out
          have hor := hfin.out ws 3 hw9 (Nat.le_refl _)
          have hwb : isBytes ws = true := isBytes_iff.2 ⟨by rw [hw9.len]; have := HIL.out.2.1; omega, hw9.bytes⟩
          have hdb : damagedBlocks ws = ((damaged9 ws).map fun k : Nat => (k : Int), 0) := by unfold damagedBlocks; rw [if_neg (by rw [hwb]; simp)]
          have hdl := damagedBlocks_len ws
          rw [hdb] at hdl
          have hwl := hw9.len
          have hone : Hid (ws ≠ img → ((damaged9 ws).map fun k : Nat => (k : Int)) = [(kk : Int)]) := fun h => by
            rcases hor with h2 | h2
            · exact absurd h2 h
            · rw [h2]; rfl
          obtain ⟨dl, hde⟩ : ∃ dl, ((damaged9 ws).map fun k : Nat => (k : Int)) = dl := ⟨_, rfl⟩
          rw [hde] at hdb hdl hone
          have HDB := Lib.hid hdb
          have HDL := Lib.hid (show dl.length ≤ 1048576 from hdl)
          have D1 := Lib.hid D
          have HWL := Lib.hid hwl
          clear hw9 hor hwb hdb hdl hde D HB hfin
          go_wp2_with fail
          have hcon := damagedBlocks_any (some ⟨g, 0, none⟩) c8 ws wr (HWL.out.symm ▸ D1.out.rd 0 rfl HWL.out) (by rw [HWL.out]; exact HIL.out.1) (by rw [HWL.out]; exact (D1.out.cap_ 0 rfl).1) (D1.out.cap_ 0 rfl).2
          rw [HWL.out, HDB.out] at hcon
          refine hcon.mono ?_
          clear hcon
          rintro e w9 m9
          change Makes2 2 _ dl 0 _ _ at m9
          obtain ⟨p9, c9, rfl, o9, -, b9⟩ := m9.get
          have D2 := Lib.hid (D1.out.make o9 b9)
          clear o9 b9 m9 D1
          go_wp2_with fail
          refine (like_yes _ _ _ _ _ _ _ _ (D2.out.rd 2 rfl rfl) (D2.out.rd 3 rfl rfl) (by have := HBL.out; omega)).mono ?_
          rintro e wa ⟨rfl, ba⟩
          have D3 := Lib.hid (D2.out.still ba)
          clear ba D2
          go_wp2_with fail
          refine (like_any _ _ _ _ _ _ _ _ _ (D3.out.rd 1 rfl HWL.out) (D3.out.rd 4 rfl rfl) (by have := HIL.out; omega) (by have := HIL.out; omega)).mono ?_
          rintro e wb ⟨rfl, qb, hqb⟩
          have D4 := Lib.hid (D3.out.still (show Below wa.heap.size wa wb by rw [hqb]; exact below_drewN' (Below.refl _ _) qb))
          clear hqb D3
          by_cases hws : ws = img
          · rw [decide_eq_true hws]
            go_wp2
            go_ret
            exact ⟨rfl, below_two B1.out D4.out.below⟩
          · rw [decide_eq_false hws]
            have hdl := hone.out hws
            subst hdl
            have D5 := Lib.hid (D4.out.make (Own.of_alloc_one (kk : Int) (Nat.le_refl _)) ((Below.refl _ _).alloc (Nat.le_refl _) _))
            go_wp2_with fail
            refine (like_yes _ _ _ _ _ _ _ _ (D5.out.rd 1 rfl rfl) (D5.out.rd 0 rfl rfl) (by simp)).mono ?_
            rintro e wc ⟨rfl, bc⟩
            have D6 := Lib.hid (D5.out.still bc)
            clear bc
            go_wp2
            go_ret
            exact ⟨rfl, below_two B1.out D6.out.below⟩


end Go.Proofs.Ytckaknaeddiphaa.fnDamagedBlocks
