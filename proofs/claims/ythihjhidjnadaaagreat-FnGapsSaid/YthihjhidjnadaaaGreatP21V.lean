/-
  Contracts of the program's, the model's and the laws' functions, and plain mathematics, on which a proof of this claim stands (part V).
-/

import Derived.Test.YthihjhidjnadaaaGreatP21U
import Derived.Test.YthihjhidjnadaaaGreatP21T
import Derived.Test.YthihjhidjnadaaaGreatP21N
import Derived.Test.YthihjhidjnadaaaGreatP21M
import Derived.Test.YthihjhidjnadaaaGreatP21I
import Derived.Test.YthihjhidjnadaaaGreatP21A
import Derived.Test.YthihjhidjnadaaaGreatP21S
import Derived.Test.YthihjhidjnadaaaGreatP21X
namespace Go.Proofs.YthihjhidjnadaaaGreat
section
open Go.RowKit
theorem Lies.spot {m : Me} {x : Ss} {j R S r s : Nat} (W : Well m) (h : Lies m x j R S r s) : ∃ i, i < m.slots.length ∧ placeS m.slots x.m x.r x.s = (i : Int) ∧ (slOf m.slots i).desc = descOf m x := by
  have hf := h.found W
  unfold findSlot at hf
  rw [if_neg (by rw [W.r4]; simp)] at hf
  rcases placeS_case m.slots x.m x.r x.s with ⟨-, h2⟩ | ⟨i, hi, h2, h3⟩
  · rw [h2] at hf
    have hf2 : (4 : Int) = 0 := congrArg Prod.snd hf
    exact absurd hf2 (by decide)
  · rw [h3] at hf
    exact ⟨i, hi, h2, (Prod.mk.inj hf).1⟩
end

section
open Go.RowKit
theorem startSum_in {t : List Sl} (h : ∀ x ∈ t, 1 ≤ x.desc.dur ∧ x.desc.dur ≤ 1000) (k r s : Int) : 0 ≤ startSum t k r s ∧ startSum t k r s ≤ 1000 * t.length := by
  unfold startSum
  have h1 := dursum_in (t := (t.filter fun x => decide (x.mode = k)).filter fun x => decide (x.round < r) || (decide (x.round = r) && decide (x.slot < s))) fun x hx => h x (List.mem_filter.1 (List.mem_filter.1 hx).1).1
  have h2 := List.length_filter_le (fun x : Sl => decide (x.round < r) || (decide (x.round = r) && decide (x.slot < s))) (t.filter fun x => decide (x.mode = k))
  have h3 := List.length_filter_le (fun x : Sl => decide (x.mode = k)) t
  omega
set_option maxRecDepth 100000 in
set_option maxHeartbeats 4000000 in
theorem l15Start_any (v : Mv) (m r s : Int) (w : World) (hr : RdMe w v) (hd : ∀ x ∈ v.e, 1 ≤ x.desc.dur ∧ x.desc.dur ≤ 1000) :
    Calls Tryz.prog 79 #[mvVal v, .int .i64 m, .int .i64 r, .int .i64 s] w fun e w' => e = .returned (.int .i64 (startSum v.e m r s)) ∧ Below w.heap.size w w' := by
  have HX := Lib.hid (Bx.start (T := 28) hr)
  have HD := Lib.hid hd
  have hel := hr.el
  clear hr hd
  unfold mvVal
  go_enter Tryz.func79, Tryz.ntmps79
  go_upto_region 1 with fail
  generalize w.alloc (.cells #[.int .i64 v.id, .slice v.no v.n.length v.nc, .slice v.mo v.cs.length v.mc, .slice v.eo v.e.length v.ec] 28) = w1 at HX ⊢
  go_wp2_with fail
  go_loopw [9, 10] (fun o i wr => ∃ (k : Nat) (z : Int), k ≤ v.e.length ∧ o = .int .i64 z ∧ i = .int .i64 k ∧ Hid (z = startSum (v.e.take k) m r s) ∧ Hid (Bx 28 w wr w.heap.size v)) (fun _ i _ => v.e.length - (intOf i).toNat)
  case atStart => exact ⟨0, 0, Nat.zero_le _, rfl, rfl, Lib.hid (by simp [startSum, dursum]), HX⟩
  case round =>
    clear HX
    obtain ⟨k, z, hk, rfl, rfl, HZ, HB⟩ := hrel
    obtain ⟨q0, q1, q2, q3⟩ := HB.out.at_.all
    by_cases hlt : k < v.e.length
    · obtain ⟨b, off, e0, hg, hx⟩ := HB.out.rd.re.at hlt
      rw [e0] at q3
      have hnx := startSum_next (k := m) (r := r) (s := s) hlt
      have hdx := HD.out _ (slOf_mem hlt)
      have hzb := startSum_in (t := v.e.take k) (fun x hx => HD.out x (List.mem_of_mem_take hx)) m r s
      have hzl : (v.e.take k).length ≤ 1048576 := by rw [List.length_take]; omega
      rw [← HZ.out] at hnx hzb
      generalize slOf v.e k = y at hx hnx hdx
      have hw : IntKind.i64.wrap (z + y.desc.dur) = z + y.desc.dur := by rw [IntKind.wrap_i64]; omega
      have HNX := Lib.hid hnx
      clear hnx hdx hzb hzl HZ
      obtain ⟨x0, x1, x2, x3, x4, x5, x6, x7⟩ := hx.all8
      have bal := (Below.refl wr.heap.size wr).alloc (Nat.le_refl _) (.cells #[.int .i64 y.mode, .int .i64 y.round, .int .i64 y.slot, .int .i64 y.desc.node, .int .i64 y.desc.kind, .int .i64 y.desc.size, .int .i64 y.desc.dur, .bool y.desc.chg] 65)
      have HX1 := Lib.hid (SlBk.new (T := 65) (x := y) wr)
      have HB2 := Lib.hid (HB.out.call bal)
      clear bal HB hx e0
      go_upto_region 6 with fail
      clear x0 x1 x2 x3 x4 x5 x6 x7 q0 q1 q2 q3
      generalize wr.alloc (.cells #[.int .i64 y.mode, .int .i64 y.round, .int .i64 y.slot, .int .i64 y.desc.node, .int .i64 y.desc.kind, .int .i64 y.desc.size, .int .i64 y.desc.dur, .bool y.desc.chg] 65) = w2 at HX1 HB2 ⊢
      obtain ⟨x0, x1, x2, -, -, -, x6, -⟩ := HX1.out.all8
      obtain ⟨q0, q1, q2, q3⟩ := HB2.out.at_.all
      by_cases h1 : y.mode = m
      · have h1b : (y.mode == m) = true := by simp [h1]
        by_cases h2 : y.round < r
        · have HR := Lib.hid (HNX.out.trans (if_pos ⟨h1, .inl h2⟩))
          clear HNX h1
          go_wp2_with fail
          clear x0 x1 x2 x6 q0 q1 q2 q3
          go_roundw
          case rel => exact ⟨k + 1, z + y.desc.dur, by omega, rfl, by go_num, Lib.hid HR.out.symm, HB2⟩
          case measure => simp [intOf]; omega
        · by_cases h3 : y.round = r
          · have h3b : (y.round == r) = true := by simp [h3]
            by_cases h4 : y.slot < s
            · have HR := Lib.hid (HNX.out.trans (if_pos ⟨h1, .inr ⟨h3, h4⟩⟩))
              clear HNX h1 h3
              go_wp2_with fail
              clear x0 x1 x2 x6 q0 q1 q2 q3
              go_roundw
              case rel => exact ⟨k + 1, z + y.desc.dur, by omega, rfl, by go_num, Lib.hid HR.out.symm, HB2⟩
              case measure => simp [intOf]; omega
            · have HR := Lib.hid (HNX.out.trans (if_neg (fun h => h.2.elim h2 (fun h => h4 h.2))))
              clear HNX h1 h3
              go_wp2_with fail
              clear x0 x1 x2 x6 q0 q1 q2 q3
              go_roundw
              case rel => exact ⟨k + 1, z, by omega, rfl, by go_num, Lib.hid HR.out.symm, HB2⟩
              case measure => simp [intOf]; omega
          · have h3b : (y.round == r) = false := by simp [h3]
            have HR := Lib.hid (HNX.out.trans (if_neg (fun h => h.2.elim h2 (fun h => h3 h.1))))
            clear HNX h1 h3
            go_wp2_with fail
            clear x0 x1 x2 x6 q0 q1 q2 q3
            go_roundw
            case rel => exact ⟨k + 1, z, by omega, rfl, by go_num, Lib.hid HR.out.symm, HB2⟩
            case measure => simp [intOf]; omega
      · have h1b : (y.mode == m) = false := by simp [h1]
        have HR := Lib.hid (HNX.out.trans (if_neg (fun h => h1 h.1)))
        clear HNX h1
        go_wp2_with fail
        clear x0 x1 x2 x6 q0 q1 q2 q3
        go_roundw
        case rel => exact ⟨k + 1, z, by omega, rfl, by go_num, Lib.hid HR.out.symm, HB2⟩
        case measure => simp [intOf]; omega
    · have hkn : k = v.e.length := by omega
      subst hkn
      have HF := Lib.hid (show z = startSum v.e m r s from by rw [HZ.out, List.take_length])
      go_wp2_with fail
      go_ret
      rw [← HF.out]
      exact ⟨rfl, HB.out.below⟩
end

section
open Go.RowKit
theorem spot_sum {m : Me} (W : Well m) {j k : Nat} (hj : j < m.modes.length) (hk : k < m.slots.length) (hm : (slOf m.slots k).mode = (j : Int)) :
    startSum m.slots (j : Int) (slOf m.slots k).round (slOf m.slots k).slot = dursum ((inMode m.slots j).take (inMode (m.slots.take k) j).length) ∧
    (slOf m.slots k).round = (((inMode (m.slots.take k) j).length / (mdOf m.modes j).slots.toNat : Nat) : Int) ∧ (slOf m.slots k).slot = (((inMode (m.slots.take k) j).length % (mdOf m.modes j).slots.toNat : Nat) : Int) := by
  obtain ⟨h1, h2, -⟩ := inMode_at hk hm
  rw [cyc_len W hj] at h1
  have hb := md_bounds W.r3 hj
  obtain ⟨a, b, e, hbS⟩ := place_split (S := (mdOf m.modes j).slots.toNat) (by omega) (inMode (m.slots.take k) j).length
  rw [e] at h1 h2 ⊢
  have ha := place_round hbS h1
  obtain ⟨-, -, g2, g3⟩ := cyc_key W hj ha hbS
  rw [h2] at g2 g3
  rw [g2, g3, start_sum W hj ha hbS, (place_div hbS).1, (place_div hbS).2]
  exact ⟨rfl, rfl, rfl⟩
end

section
open Go.RowKit
set_option maxRecDepth 100000 in
set_option maxHeartbeats 2000000 in
theorem l15Known_any (v : Mv) (d : Int) (w : World) (hr : RdMe w v) :
    Calls Tryz.prog 144 #[mvVal v, .int .i64 d] w fun e w' => e = .returned (.bool ((findNode v.n d).2 == 0)) ∧ Below w.heap.size w w' := by
  have HX := Lib.hid (Bx.start (T := 28) hr)
  have HFN := Lib.hid (fun W (hW : RdMe W v) => (show Calls Tryz.prog 179 #[.slice v.no v.n.length v.nc, .int .i64 d] W fun e w' => e = .returned (.tuple #[ndVal (findNode v.n d).1, .int .i64 (findNode v.n d).2]) ∧ Below W.heap.size W w' from sFindNode_any v.no v.n.length v.nc v.n d W hW.rn hW.nle hW.ncap hW.ns))
  obtain ⟨x, q, hfn⟩ : ∃ x q, findNode v.n d = (x, q) := ⟨_, _, rfl⟩
  rw [hfn] at HFN ⊢
  unfold ndVal at HFN
  dsimp only at HFN ⊢
  clear hfn hr
  unfold mvVal
  go_enter Tryz.func144, Tryz.ntmps144
  go_upto_region 1 with fail
  generalize w.alloc (.cells #[.int .i64 v.id, .slice v.no v.n.length v.nc, .slice v.mo v.cs.length v.mc, .slice v.eo v.e.length v.ec] 28) = w1 at HX ⊢
  obtain ⟨z0, z1, z2, z3⟩ := HX.out.at_.all
  go_wp2_with fail
  refine (HFN.out _ HX.out.rd).mono ?_
  rintro e w3 ⟨rfl, b3⟩
  have HX3 := Lib.hid (HX.out.call b3)
  have HX4 := Lib.hid (HX3.out.call ((Below.refl w3.heap.size w3).alloc (Nat.le_refl _) (.cells #[.int .i64 x.id, .string x.name, .int .i64 x.drift, .bool x.pas] 130)))
  clear z0 z1 z2 z3
  go_wp2_with fail
  go_ret
  exact ⟨rfl, HX4.out.below⟩
set_option linter.unusedSimpArgs false in
set_option maxRecDepth 100000 in
set_option maxHeartbeats 4000000 in
theorem l15Times_any (v : Mv) (j : Nat) (d : Int) (w : World) (hr : RdMe w v) (hw : Well v.me) (hj : j < v.me.modes.length) :
    Calls Tryz.prog 108 #[mvVal v, .int .i64 (j : Int), .int .i64 d] w (Makes 2 w (sendTo (inMode v.e j) d (inMode v.e j).length)) := by
  have HX := Lib.hid (Bx.start (T := 28) hr)
  have HD := Lib.hid (fun x (hx : x ∈ v.e) => sl_dur hw.r4 hx)
  have HST := Lib.hid (fun r s W (hW : RdMe W v) => l15Start_any v (j : Int) r s W hW HD.out)
  have HIT := Lib.hid (fun i (hi : i < v.e.length) (h : (slOf v.e i).mode = (j : Int)) => inMode_at (t := v.e) hi h)
  have HSP := Lib.hid (fun i (hi : i < v.e.length) (h : (slOf v.e i).mode = (j : Int)) => (spot_sum (m := v.me) hw hj hi h).1)
  have hle : (inMode v.e j).length ≤ 120 := Nat.le_trans (inMode_le v.e j) (isSls_iff.1 hw.r4).1
  have HSE := Lib.hid (fun i (hi : i ≤ (inMode v.e j).length) => (by rw [sendTo_len _ _ _ hi]; exact Nat.le_trans (List.length_filter_le _ _) (by rw [List.length_take]; omega) : (sendTo (inMode v.e j) d i).length ≤ 120))
  have hel := hr.el
  have HR0 := Lib.hid hr
  clear hw hj hr hle
  unfold mvVal at HST ⊢
  go_enter Tryz.func108, Tryz.ntmps108
  go_upto_region 1 with fail
  generalize w.alloc (.cells #[.int .i64 v.id, .slice v.no v.n.length v.nc, .slice v.mo v.cs.length v.mc, .slice v.eo v.e.length v.ec] 28) = w1 at HX ⊢
  have bN := (Below.refl w1.heap.size w1).alloc (Nat.le_refl _) (.cells #[] 2)
  have HX2 := Lib.hid (HX.out.call bN)
  have HN2 := Lib.hid (Own.of_alloc_nil (E := 2) (w := w1) (base := w.heap.size) HX.out.below.size)
  clear bN HX
  go_wp2_with fail
  generalize w1.alloc (.cells #[] 2) = w2 at HX2 HN2 ⊢
  go_loopw [7, 8] (fun o i wr => ∃ k : Nat, k ≤ v.e.length ∧ i = .int .i64 k ∧ Hid (Bx 28 w wr w.heap.size v) ∧ Hid (Own 2 wr w.heap.size o (sendTo (inMode v.e j) d (inMode (v.e.take k) j).length))) (fun _ i _ => v.e.length - (intOf i).toNat)
  case atStart => exact ⟨0, Nat.zero_le _, rfl, HX2, HN2⟩
  case round =>
    clear HX2 HN2
    obtain ⟨k, hk, rfl, HB, HO⟩ := hrel
    obtain ⟨q0, q1, q2, q3⟩ := HB.out.at_.all
    by_cases hlt : k < v.e.length
    · obtain ⟨b, off, e0, hg, hx⟩ := HB.out.rd.re.at hlt
      rw [e0] at q3
      have HIN := Lib.hid (inMode_next (t := v.e) (j := j) hlt)
      have HI2 := Lib.hid (HIT.out k hlt)
      have HS2 := Lib.hid (HSP.out k hlt)
      change Hid ((slOf v.e k).mode = (j : Int) → startSum v.e (j : Int) (slOf v.e k).round (slOf v.e k).slot = dursum ((inMode v.e j).take (inMode (v.e.take k) j).length)) at HS2
      generalize slOf v.e k = y at hx HIN HI2 HS2
      obtain ⟨x0, x1, x2, x3, x4, x5, x6, x7⟩ := hx.all8
      have bal := (Below.refl wr.heap.size wr).alloc (Nat.le_refl _) (.cells #[.int .i64 y.mode, .int .i64 y.round, .int .i64 y.slot, .int .i64 y.desc.node, .int .i64 y.desc.kind, .int .i64 y.desc.size, .int .i64 y.desc.dur, .bool y.desc.chg] 65)
      have HX1 := Lib.hid (SlBk.new (T := 65) (x := y) wr)
      have HB2 := Lib.hid (HB.out.call bal)
      have HO2 := Lib.hid (HO.out.below bal)
      clear bal HB hx e0 HO
      go_upto_region 6 with fail
      clear x0 x1 x2 x3 x4 x5 x6 x7 q0 q1 q2 q3
      generalize wr.alloc (.cells #[.int .i64 y.mode, .int .i64 y.round, .int .i64 y.slot, .int .i64 y.desc.node, .int .i64 y.desc.kind, .int .i64 y.desc.size, .int .i64 y.desc.dur, .bool y.desc.chg] 65) = w3 at HX1 HB2 HO2 ⊢
      obtain ⟨x0, x1, x2, x3, -, -, -, -⟩ := HX1.out.all8
      by_cases h1 : y.mode = (j : Int)
      · have h1b : (y.mode == (j : Int)) = true := by simp [h1]
        obtain ⟨i1, i2, -⟩ := HI2.out h1
        have s1 := HS2.out h1
        have hin := HIN.out
        rw [if_pos h1] at hin
        have HLN := Lib.hid (HSE.out _ (Nat.le_of_lt i1))
        have HSN := Lib.hid (show sendTo (inMode v.e j) d (inMode (v.e.take (k + 1)) j).length = sendTo (inMode v.e j) d (inMode (v.e.take k) j).length ++ (if y.desc.node = d then [dursum ((inMode v.e j).take (inMode (v.e.take k) j).length)] else []) from by
          rw [hin, List.length_append, List.length_singleton, sendTo, i2])
        have HS3 := HST.out y.round y.slot
        rw [s1] at HS3
        generalize dursum ((inMode v.e j).take (inMode (v.e.take k) j).length) = z at HS3 HSN
        have HSC := Lib.hid HS3
        clear i1 i2 s1 hin HS3 HS2 HI2 HIN h1
        by_cases h2 : y.desc.node = d
        · have h2b : (y.desc.node == d) = true := by simp [h2]
          have HS4 := Lib.hid (HSN.out.trans (by rw [if_pos h2]))
          clear HSN h2
          go_upto_region 7 with fail
          clear x3
          obtain ⟨q0, q1, q2, q3⟩ := HB2.out.at_.all
          go_wp2_with fail
          refine (HSC.out _ HB2.out.rd).mono ?_
          rintro e w5 ⟨rfl, b5⟩
          have HB5 := Lib.hid (HB2.out.call b5)
          have HO5 := Lib.hid (HO2.out.below b5)
          have bl1 := (Below.refl w5.heap.size w5).alloc (Nat.le_refl _) (.cells #[.int .i64 z] 2)
          have HB6 := Lib.hid (HB5.out.call bl1)
          have HO6 := Lib.hid (HO5.out.below bl1)
          have hnc : (w5.alloc (.cells #[.int .i64 z] 2)).cell? ⟨w5.heap.size, 0, none⟩ = some (.int .i64 z) := by simp
          clear b5 bl1 x0 x1 x2 q0 q1 q2 q3 HB2 HO2
          go_wp2_with (at_builtin; refine append_g _ rfl (.tmp 34) (.tmp 42) rfl w.heap.size Tryz.underlying53 info64 _ _ rfl HO6.out _ z _ rfl hnc (by have := HLN.out; omega) HB6.out.below.size ?_; intro v9 w9 o9 g9)
          have hbw := HB6.out.below.grown g9 HB6.out.below.size (fun k hk => (HO6.out.block k hk).1)
          have HB9 := Lib.hid (show Bx 28 w w9 w.heap.size v from ⟨HB6.out.at_.grown g9 (ownsRow_ne HO6.out HB6.out.at_ (by decide)), HR0.out.below hbw, hbw⟩)
          have HO9 := Lib.hid o9
          clear o9 g9 hbw HB5 HB6 HO5 HO6
          go_wp2_with fail
          go_roundw
          case rel => exact ⟨k + 1, by omega, by go_num, HB9, Lib.hid (by rw [HS4.out]; exact HO9.out)⟩
          case measure => simp [intOf]; omega
        · have h2b : (y.desc.node == d) = false := by simp [h2]
          have HS4 := Lib.hid (HSN.out.trans (by rw [if_neg h2, List.append_nil]))
          clear HSN h2
          go_wp2_with fail
          clear x0 x1 x2 x3
          go_roundw
          case rel => exact ⟨k + 1, by omega, by go_num, HB2, Lib.hid (by rw [HS4.out]; exact HO2.out)⟩
          case measure => simp [intOf]; omega
      · have h1b : (y.mode == (j : Int)) = false := by simp [h1]
        have hin := HIN.out
        rw [if_neg h1] at hin
        have HS4 := Lib.hid (show sendTo (inMode v.e j) d (inMode (v.e.take (k + 1)) j).length = sendTo (inMode v.e j) d (inMode (v.e.take k) j).length from by rw [hin])
        clear hin HIN HI2 HS2 h1
        go_wp2_with fail
        clear x0 x1 x2 x3
        go_roundw
        case rel => exact ⟨k + 1, by omega, by go_num, HB2, Lib.hid (by rw [HS4.out]; exact HO2.out)⟩
        case measure => simp [intOf]; omega
    · have hkn : k = v.e.length := by omega
      subst hkn
      have HF := Lib.hid (show (inMode (v.e.take v.e.length) j).length = (inMode v.e j).length from by rw [List.take_length])
      go_wp2_with fail
      go_ret
      exact ⟨_, rfl, by rw [← HF.out]; exact HO.out, HB.out.below⟩
end
end Go.Proofs.YthihjhidjnadaaaGreat
