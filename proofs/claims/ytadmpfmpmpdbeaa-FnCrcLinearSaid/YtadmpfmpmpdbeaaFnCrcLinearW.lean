/-
  The walk of laws.FnCrcLinear: at every input it returns true and writes nothing that was there.
-/
import Derived.Test.YtadmpfmpmpdbeaaRows
import Derived.Test.YtadmpfmpmpdbeaaC2r
import Derived.WalkKit
import Derived.ProofKit
import Derived.OpenShut
import Derived.ShutString
import Derived.ChangeOld
import Derived.Below
namespace Go.Proofs.Ytadmpfmpmpdbeaa.fnCrcLinear
open Go.ChangeShapes Go.WideShapes Go.ChangeAt Go.RowKit
open Go.ChangeMaps (open_string shut_string)
set_option linter.unusedVariables false


/-- WHAT THE WALK IS TOLD OF A SLICE OF INTEGERS THAT CAME IN: it is nil; or it leads to a row of 'cap' cells, the numbers 'zs' (the first 'len' are its elements, the rest its spare room), each fitting its kind. -/
def IsRow (k : IntKind) (w : World) (a : Option Addr) (len cap : Nat) (zs : List Int) : Prop :=
  (a = none ∧ len = 0 ∧ cap = 0 ∧ zs = []) ∨
  ∃ x, a = some x ∧ len ≤ cap ∧ cap ≤ maxLen ∧ zs.length = cap ∧ (∀ i, i < zs.length → w.cell? (x.add i) = some (.int k (zs.getD i 0))) ∧ ∀ n ∈ zs, (Lit.int k n).wf = true

/-! ### STEP 1: THE WALK: the Go text returns true, AND WRITES NOTHING THAT WAS THERE: 'Below w.heap.size w w'' (Derived/Below.lean: '.refl', '.alloc', '.drew', '.setCell' at a new block, '.trans'). Open each 'IsRow' by 'rcases' AHEAD of 'go_enter'; part every test ahead of the walk. -/
set_option maxHeartbeats 1000000 in
theorem walk (a0 : Option Addr) (len0 cap0 : Nat) (z0 : List Int) (w : World) (w0 : IsRow .u8 w a0 len0 cap0 z0) :
    Calls Try.prog 5 #[.slice a0 len0 cap0] w fun e w' => e = .returned (.bool true) ∧ Below w.heap.size w w' := by
  have hr := rdB_of_row w0
  clear w0
  generalize List.take len0 z0 = cs at hr
  have HR := Lib.hid hr; clear hr
  by_cases hbig : len0 ≤ 4096
  · go_enter Try.func5, Try.ntmps5
    go_wp2_with fail
    refine (big_no _ _ _ _ hbig).mono ?_
    rintro e w' ⟨rfl, rfl⟩
    go_wp2_with fail
    refine (drawSyndromeOf_any _ _ _ cs _ HR.out (by omega)).mono ?_
    rintro e w1 ⟨wd, pl, v1, xs, rfl, o1, hxl, b1⟩
    obtain ⟨p1, c1, rfl, o1, -⟩ := o1.get
    have H : HeldC 2 25 w (w1.alloc (.cells #[.int .i64 wd, .int .i64 pl] 25)) w1.heap.size wd pl _ := HeldC.start o1 b1
    obtain ⟨C, hC⟩ : ∃ C, C = w1.heap.size := ⟨_, rfl⟩
    clear o1 b1
    obtain ⟨r0, r1, hF⟩ : ∃ r0 r1, crcOfBits wd pl 0 xs = (r0, r1) := ⟨_, _, rfl⟩
    have HF := Lib.hid hF; clear hF
    go_wp2_with fail
    rw [← hC] at H ⊢
    clear hC
    refine (syndromeOf_any _ _ _ _ xs _ (H.rd 0 rfl rfl) (by omega)).mono ?_
    rintro e w2 ⟨rfl, b2⟩
    replace H := H.still b2
    rw [HF.out]
    clear b2
    have hc0 := H.st.c0
    have hc1 := H.st.c1
    go_wp2_with fail
    clear hc0 hc1
    refine (sSyndromeOf_any _ _ _ _ xs _ (H.rd 0 rfl rfl) (by omega)).mono ?_
    rintro e w5 ⟨rfl, b5⟩
    replace H := H.still b5
    rw [HF.out]
    clear b5
    by_cases hr1 : r1 = 0
    · subst hr1
      have hlin := linear_round HF.out
      obtain ⟨W, rfl, hW1, hW2, hbx, hlin⟩ := hlin
      have HLIN := Lib.hid hlin; clear hlin
      have HBX := Lib.hid hbx; clear hbx
      have hpw := pow40 W (by omega)
      have hpw2 : (2 : Int) ^ W ≤ 16777216 := by
        have h1 : (2 : Nat) ^ W ≤ 2 ^ 24 := Nat.pow_le_pow_right (by omega) hW2
        have e : ((2 ^ W : Nat) : Int) = (2 : Int) ^ W := by simp
        omega
      go_wp2_with fail
      refine (roll_any _ _ _ cs _ _ (rdB_grow HR.out H.below) (by omega)).mono ?_
      rintro e w6 ⟨d, rfl, hd, hs6, b6⟩
      have D6 : HeldD 2 74 w5 w6 d [] := HeldD.start b6 hd hs6
      have D8 : HeldD 2 74 w5 ((w6.alloc (.cells #[] 2)).alloc (.cells #[] 2)) d [(.slice (some ⟨w6.heap.size + 1, 0, none⟩) 0 0, []), (.slice (some ⟨w6.heap.size, 0, none⟩) 0 0, [])] := by
        have h := (D6.make (Own.of_alloc_nil (Nat.le_refl _)) ((Below.refl _ _).alloc (Nat.le_refl _) _)).make (Own.of_alloc_nil (Nat.le_refl _)) ((Below.refl _ _).alloc (Nat.le_refl _) _)
        rw [show (w6.alloc (.cells #[] 2)).heap.size = w6.heap.size + 1 from by simp] at h
        exact h
      have D8 := Lib.hid D8
      have HH := Lib.hid H
      clear b6 hd hs6 D6 H
      go_wp2
      go_loopw [10, 11, 12] (fun va vb i wr => ∃ (k : Nat) (az : List Int), k ≤ xs.length ∧ i = .int .i64 k ∧ Hid (az.length = k ∧ ∀ a ∈ az, 0 ≤ a ∧ a ≤ 1) ∧ HeldD 2 74 w5 wr d [(vb, xorL az (xs.take k)), (va, az)]) (fun _ _ i _ => xs.length - (intOf i).toNat)
      case atStart => exact ⟨0, [], Nat.zero_le _, rfl, ⟨rfl, fun _ h => by cases h⟩, D8.out⟩
      case round =>
        clear D8
        obtain ⟨k, az, hk, rfl, HA, D⟩ := hrel
        by_cases hlt : k < xs.length
        · obtain ⟨pa0, ca0, rfl, oa0, ra0⟩ := (D.get 1 rfl).get
          obtain ⟨pb0, cb0, rfl, ob0, rb0⟩ := (D.get 0 rfl).get
          clear oa0 ra0 ob0 rb0
          have D1 := Lib.hid D; clear D
          have hl1 : az.length ≤ 4294967296 := by rw [HA.out.1]; omega
          have hxt : az.length = (xs.take k).length := by rw [HA.out.1, List.length_take]; omega
          have hl2 : (xorL az (xs.take k)).length ≤ 4294967296 := by rw [xorL_len _ _ hxt, ← hxt]; exact hl1
          have HXT := Lib.hid hxt; clear hxt
          have HL1 := Lib.hid hl1; clear hl1
          have HL2 := Lib.hid hl2; clear hl2
          have hre := HH.out.rd 0 rfl rfl
          obtain ⟨b, off, rfl, hall⟩ := hre.here (by omega)
          have hxk0 := hall k hlt
          have hblt : b < w5.heap.size := World.block_lt_of_cell? _ _ hxk0
          have hxb := HBX.out (xs.getD k 0) (getD_mem' hlt)
          have hts := take_succ' xs k hlt
          clear hall hre
          obtain ⟨x, hx⟩ : ∃ x, x = xs.getD k 0 := ⟨_, rfl⟩
          rw [← hx] at hxk0 hxb hts
          clear hx
          have HTS := Lib.hid hts; clear hts
          have HXK := Lib.hid hxk0; clear hxk0
          have hal := fun ob => ((Below.refl wr.heap.size wr).alloc (Nat.le_refl _) ob)
          have HAL := Lib.hid hal; clear hal
          go_wp2_with fail
          refine (below_any d 2 _ D1.out.dice (by omega) (by omega)).mono ?_
          rintro e w2 ⟨y, rfl, hy0, hy1, hs2, g2⟩
          have D2 := Lib.hid (D1.out.throw_ hs2 g2)
          clear D1 hs2 g2 HAL
          have hsz2 := D2.out.dice.lt
          go_wp2_with (at_builtin; refine append_push _ rfl (.tmp 57) (.tmp 60) rfl (d + 1) Try.underlying26 info64 _ az rfl ((D2.out.get 1 rfl).below ((Below.refl _ _).alloc (Nat.le_refl _) _)) _ _ _ rfl (new_cell rfl) HL1.out (by simp; omega) ?_; intro va' w3 o3 g3 hb3)
          have D3 := Lib.hid ((D2.out.still ((Below.refl _ _).alloc (Nat.le_refl _) _)).push [(Value.slice pb0 (xorL az (xs.take k)).length cb0, xorL az (xs.take k))] o3 g3 hb3)
          obtain ⟨pa, ca, rfl, oa, ra⟩ := o3.get
          clear o3 g3 hb3 oa D2 hsz2
          have hla : (az ++ [y]).length = k + 1 := by rw [List.length_append, HA.out.1, List.length_singleton]
          rw [hla] at ra D3 ⊢
          obtain ⟨ga, offa, rfl, halla⟩ := ra.here (by omega)
          have hyk := halla k (by omega)
          have hgy : (az ++ [y]).getD k 0 = y := by rw [← HA.out.1]; simp [List.getD]
          rw [hgy] at hyk
          clear halla ra
          have hS : ∀ (wz : World) (q : Value × List Int), HeldD 2 74 w5 wz d [q, (Value.slice (some ⟨ga, offa, none⟩) (k + 1) ca, az ++ [y])] → wz.cell? ⟨ga, offa + k, none⟩ = some (.int .i64 y) ∧ wz.cell? ⟨b, off + k, none⟩ = some (.int .i64 x) := by
            intro wz q h
            refine ⟨?_, (h.below.cell (p := ⟨b, off + k, none⟩) hblt).trans HXK.out⟩
            have hr2 := h.rd 1 rfl hla
            obtain ⟨ga', offa', e, hc⟩ := hr2.here (by omega)
            cases e
            have := hc k (by omega)
            rwa [hgy] at this
          have HS := Lib.hid hS; clear hS hyk
          have D3d := Lib.hid (D3.out.still (Below.refl w3.heap.size w3).drew)
          have hk0 : (0 : Int) ≤ (k : Int) := by omega
          have hk1 : (k : Int) < ((k + 1 : Nat) : Int) := by omega
          have hk2 : (k : Int) < (k : Int) + 1 := by omega
          have hk3 : (k : Int) < (xs.length : Int) := by omega
          have hsz3 := D3.out.dice.lt
          have HLA := Lib.hid hla; clear hla hgy
          go_wp2
          go_region_held3 (fun w' => w'.cell? ⟨ga, offa + k, none⟩ = some (.int .i64 y) ∧ w'.cell? ⟨b, off + k, none⟩ = some (.int .i64 x))
            (first | exact HS.out _ _ D3d.out | exact HS.out _ _ D5.out | exact HS.out _ _ (D3.out.still (((Below.refl _ _).alloc (Nat.le_refl _) _).drew)) | exact HS.out _ _ (D3d.out.still ((Below.refl _ _).alloc (Nat.le_refl _) _)))
            (first
              | (refine step_push _ (by rfl) (.tmp 62) (.tmp 72) (by rfl) (d + 1) Try.underlying26 info64 _ _ (by rfl) ((D3.out.get 0 rfl).below (((Below.refl _ _).alloc (Nat.le_refl _) _).drew)) _ _ _ (by rfl) (new_cell (w := w3) rfl) HL2.out (by simp; omega) ?_; intro vb' w5' o5 g5 hb5; have D5 := Lib.hid ((D3.out.still (((Below.refl _ _).alloc (Nat.le_refl _) _).drew)).push [] o5 g5 hb5); clear o5 g5 hb5))
          go_wp2
          go_roundw
          case rel =>
            refine ⟨k + 1, az ++ [y], by omega, by go_num, ⟨HLA.out, fun a ha => ?_⟩, ?_⟩
            · rcases List.mem_append.1 ha with ha | ha
              · exact HA.out.2 a ha
              · rw [List.mem_singleton] at ha; omega
            · rw [HTS.out, xorL_snoc _ _ HXT.out]; exact D5.out
          case measure => simp [intOf]; omega
        · have hkn : k = xs.length := by omega
          subst hkn
          rw [List.take_length] at D
          obtain ⟨pa, ca, rfl, oa, ra⟩ := (D.get 1 rfl).get
          obtain ⟨pb, cb, rfl, ob, rb⟩ := (D.get 0 rfl).get
          have hxc := HH.out.st.below D.below HH.out.st.lt
          have hc0 := hxc.c0
          have D9 := Lib.hid D
          clear D oa ra ob rb
          go_wp2_with fail
          clear hc0
          refine (below_any d _ _ D9.out.dice (by omega) (by omega)).mono ?_
          rintro e w9 ⟨s, rfl, hs0, hs1, hs9, g9⟩
          have D10 := Lib.hid (D9.out.throw_ hs9 g9)
          clear D9 hs9 g9
          obtain ⟨x, y, hX, hY, hXY⟩ := HLIN.out s az hs0 hs1 HA.out.1 HA.out.2
          have HX := Lib.hid hX; clear hX
          have HY := Lib.hid hY; clear hY
          have hxc := HH.out.st.below D10.out.below HH.out.st.lt
          have hc0 := hxc.c0
          have hc1 := hxc.c1
          clear hxc
          have hal : az.length ≤ 1048576 := by rw [HA.out.1]; omega
          have hbl : (xorL az xs).length ≤ 1048576 := by rw [xorL_len _ _ HA.out.1]; omega
          go_wp2_with fail
          clear hc0 hc1
          refine (crcOfBits_at _ _ _ _ _ _ az _ (D10.out.rd 1 rfl rfl) hal).mono ?_
          rintro e w10 ⟨rfl, b10⟩
          rw [HX.out]
          have D11 := Lib.hid (D10.out.still b10)
          clear b10
          have hxc := HH.out.st.below D11.out.below HH.out.st.lt
          have hc0 := hxc.c0
          have hc1 := hxc.c1
          clear hxc
          go_wp2_with fail
          clear hc0 hc1
          refine (crcOfBits_at _ _ _ _ _ _ (xorL az xs) _ (D11.out.rd 0 rfl rfl) hbl).mono ?_
          rintro e w11 ⟨rfl, b11⟩
          rw [HY.out]
          have D12 := Lib.hid (D11.out.still b11)
          clear b11
          go_wp2
          go_ret
          exact ⟨rfl, below_two HH.out.below D12.out.below⟩
    · have t1 : (r1 != 0) = true := by simp [hr1]
      clear hr1
      go_wp2_with fail
      go_ret
      exact ⟨rfl, H.below⟩
  · go_enter Try.func5, Try.ntmps5
    go_wp2_with fail
    refine (big_yes _ _ _ _ hbig).mono ?_
    rintro e w' ⟨rfl, rfl⟩
    go_wp2
    go_ret
    exact ⟨rfl, Below.refl _ _⟩


end Go.Proofs.Ytadmpfmpmpdbeaa.fnCrcLinear
