/-
  Chapter 3: weights, the first one, missed errors on both sides.
  Chapter 3: the order of a code on both sides.
  Chapter 3: OrderOf on both sides.
  Chapter 3: SumErrors on both sides.
  Chapter 3: BurstOf on both sides.
  Chapter 3: the syndromes of single ones, on both sides.
  Chapter 3: the specification's search for the first missed error.
  Chapter 3: the program's search for the first missed error, by a map of the syndromes.
  Chapter 3: LeastWeight and FirstMissed on both sides.
  Chapter 3: IsFound on both sides (they differ where the order is greater than 5000 and the list is longer).
-/
import Derived.Test.YtdcalkobcdeclaaSym
import Derived.Test.YtdcalkobcdeclaaTwoB
import Derived.BigRegion
import Derived.Deep.RegionHeld3
import Derived.Maps.OwnOps
import Derived.Deep.QuietTactic
import Derived.Lib.SliceRun
import Derived.Test.YtdcalkobcdeclaaOne
namespace Go.Proofs.Ytdcalkobcdeclaa
section
open Go.RowKit

/-- r is the index of the first x among the numbers, or -1. -/
def FirstAt (xs : List Int) (x r : Int) : Prop := (r = -1 ∧ ∀ j, j < xs.length → xs.getD j 0 ≠ x) ∨ ∃ k : Nat, r = k ∧ k < xs.length ∧ xs.getD k 0 = x ∧ ∀ j, j < k → xs.getD j 0 ≠ x
theorem getD_mem_iff (xs : List Int) (x : Int) : x ∈ xs ↔ ∃ j, j < xs.length ∧ xs.getD j 0 = x := by
  rw [List.mem_iff_getElem]
  constructor
  · rintro ⟨j, h, e⟩; exact ⟨j, h, by simpa [List.getD, h] using e⟩
  · rintro ⟨j, h, e⟩; exact ⟨j, h, by simpa [List.getD, h] using e⟩
theorem firstAt_mem {xs : List Int} {x r : Int} (h : FirstAt xs x r) : (decide (0 ≤ r)) = decide (x ∈ xs) := by
  rw [decide_eq_decide, getD_mem_iff]
  rcases h with ⟨h1, h2⟩ | ⟨k, h1, h2, h3, h4⟩
  · constructor
    · intro h; omega
    · rintro ⟨j, hj, e⟩; exact absurd e (h2 j hj)
  · exact ⟨fun _ => ⟨k, h2, h3⟩, fun _ => by omega⟩
theorem cob_zero (wd p : Int) (xs : List Int) : crcOfBits wd p 0 xs = if isCrc wd p = false then (0, 1) else if isBits xs = false then (0, 3) else (crcRaw wd p 0 xs, 0) := by
  unfold crcOfBits crcCode
  rcases hI : isCrc wd p with _ | _
  · simp
  · obtain ⟨W, g, rfl, h1, h2, rfl, -⟩ := isCrc_get hI
    have hs : seedIn (W : Int) 0 = true := by have := seedIn_put (0#W); rwa [show (((0#W).toNat : Nat) : Int) = 0 from by simp] at this
    rw [hs]
    rcases hb : isBits xs with _ | _ <;> simp
theorem weight_one {xs : List Int} (hb : ∀ x ∈ xs, 0 ≤ x ∧ x ≤ 1) : decide (0 < weight xs) = decide (1 ∈ xs) := by
  rw [decide_eq_decide, getD_mem_iff]
  constructor
  · intro h
    by_cases he : ∃ j, j < xs.length ∧ xs.getD j 0 = 1
    · exact he
    · have hz : ∀ x ∈ xs, x = 0 := fun x hx => by
        obtain ⟨j, hj, e⟩ := (getD_mem_iff xs x).1 hx
        have h2 := hb x hx
        have h3 : x ≠ 1 := fun h1 => he ⟨j, hj, by rw [e, h1]⟩
        omega
      have e : xs = List.replicate xs.length 0 := List.eq_replicate_iff.2 ⟨rfl, hz⟩
      rw [e, weight_zeros] at h; omega
  · rintro ⟨j, _, e⟩
    exact weight_pos hb j e
theorem isMissed_code {wd p v c : Int} {xs : List Int} (h : crcOfBits wd p 0 xs = (v, c)) (hc : c ≠ 0) : isMissed wd p xs = false := by
  rw [cob_zero] at h
  unfold isMissed
  split at h
  · rename_i h1; rw [h1]; rfl
  · split at h
    · rename_i h1; rw [h1]; simp
    · simp only [Prod.mk.injEq] at h; omega
theorem isMissed_synd {wd p v : Int} {xs : List Int} (h : crcOfBits wd p 0 xs = (v, 0)) : isMissed wd p xs = (decide (v = 0) && decide (1 ∈ xs)) := by
  rw [cob_zero] at h
  unfold isMissed
  split at h
  · simp at h
  · split at h
    · simp at h
    · rename_i h1 h2
      have h1 : isCrc wd p = true := by simpa using h1
      have h2 : isBits xs = true := by simpa using h2
      simp only [Prod.mk.injEq, and_true] at h
      rw [h1, h2, h, weight_one (isBits_iff.1 h2).2, Bool.and_comm]
      simp

theorem isMissed_1 {wd p : Int} {xs : List Int} (h : isCrc wd p = false) : isMissed wd p xs = false := by unfold isMissed; rw [h]; rfl
theorem isMissed_2 {wd p : Int} {xs : List Int} (h : isBits xs = false) : isMissed wd p xs = false := by unfold isMissed; rw [h]; simp
theorem isMissed_3 {wd p : Int} {xs : List Int} (h1 : isCrc wd p = true) (h2 : isBits xs = true) : isMissed wd p xs = (decide (0 < weight xs) && decide (crcRaw wd p 0 xs = 0)) := by unfold isMissed; rw [h1, h2]; simp
end

section
open Go.RowKit

/-- spec.l02Feed of a single bit in a slice that has just been laid. -/
theorem fb_of_one {W : Nat} (g r : BitVec W) (b : Int) : regOf g r [b] = ((fb g r (decide (b = 1))).toNat : Int) := rfl
theorem rdC_one {w : World} {b : Nat} {x : Int} (h : w.cell? ⟨b, 0, none⟩ = some (.int .i64 x)) : Rd w (some ⟨b, 0, none⟩) 1 [x] :=
  ⟨rfl, fun _ => ⟨b, 0, rfl, fun i hi => by
    obtain rfl : i = 0 := by omega
    exact h⟩⟩
theorem rdC_new {w : World} {x : Int} {T : Nat} : Rd (w.alloc (.cells #[.int .i64 x] T)) (some ⟨w.heap.size, 0, none⟩) 1 [x] := rdC_one (by rw [World.cell?_alloc_at _ _ _ _ rfl]; rfl)
theorem bit_list {b : Int} (h : 0 ≤ b ∧ b ≤ 1) : ∀ x ∈ [b], 0 ≤ x ∧ x ≤ 1 := fun x hx => by rw [List.mem_singleton.1 hx]; exact h
theorem feedBit_any (W : Nat) (g r : BitVec W) (ao : Option Addr) (cap : Nat) (b : Int) (w : World) (h1 : 3 ≤ W) (h2 : W ≤ 24) (hr : Rd w ao 1 [b]) (hb : 0 ≤ b ∧ b ≤ 1) :
    Calls Try.prog 100 #[.agg #[.int .i64 W, .int .i64 g.toNat], .int .i64 r.toNat, .slice ao 1 cap] w fun e w' => e = .returned (.int .i64 (fb g r (decide (b = 1))).toNat) ∧ Below w.heap.size w w' :=
  feed_any W g r ao 1 cap [b] w h1 h2 hr (by omega) (bit_list hb)
/-- .. from the register 0, a one: the polynomial. -/
theorem feedOne_any (W : Nat) (g : BitVec W) (ao : Option Addr) (cap : Nat) (w : World) (h1 : 3 ≤ W) (h2 : W ≤ 24) (hr : Rd w ao 1 [1]) :
    Calls Try.prog 100 #[.agg #[.int .i64 W, .int .i64 g.toNat], .int .i64 0, .slice ao 1 cap] w fun e w' => e = .returned (.int .i64 g.toNat) ∧ Below w.heap.size w w' := by
  have h := feedBit_any W g 0#W ao cap 1 w h1 h2 hr (by omega)
  rw [show (((0#W).toNat : Nat) : Int) = 0 from by simp] at h
  rwa [show fb g 0#W (decide ((1 : Int) = 1)) = g from fb_zero_true] at h
/-- .. a nought: one step of the tail. -/
theorem feedNought_any (W : Nat) (g r : BitVec W) (ao : Option Addr) (cap : Nat) (w : World) (h1 : 3 ≤ W) (h2 : W ≤ 24) (hr : Rd w ao 1 [0]) :
    Calls Try.prog 100 #[.agg #[.int .i64 W, .int .i64 g.toNat], .int .i64 r.toNat, .slice ao 1 cap] w fun e w' => e = .returned (.int .i64 (fb g r false).toNat) ∧ Below w.heap.size w w' := by
  have h := feedBit_any W g r ao cap 0 w h1 h2 hr (by omega)
  rwa [show decide ((0 : Int) = 1) = false from by decide] at h

theorem nat_beq {W : Nat} (x y : BitVec W) : ((x.toNat : Int) == (y.toNat : Int)) = decide (x = y) := by
  rw [beq_dec, decide_eq_decide]
  constructor
  · intro h; exact BitVec.eq_of_toNat_eq (by omega)
  · intro h; rw [h]
end

section
open Go.RowKit

theorem orderOf_1 {wd p : Int} (h : isCrc wd p = false) : orderOf wd p = (0, 1) := by unfold orderOf; rw [if_pos h]
theorem orderOf_0 {W : Nat} {g : BitVec W} (h : isCrc (W : Int) (g.toNat : Int) = true) : orderOf (W : Int) (g.toNat : Int) = if order g ≤ 5000 then ((order g : Int), 0) else (0, 3) := by
  unfold orderOf
  rw [if_neg (by simp [h]), Int.toNat_natCast, Int.toNat_natCast, show BitVec.ofNat W g.toNat = g from by simp]
/-- A one fed into the register 0: the polynomial. -/
theorem afterFirst_any (p W : Nat) (g : BitVec W) (w : World) (h1 : 3 ≤ W) (h2 : W ≤ 24) (hc : CodeAt w p W g.toNat) :
    Calls Try.prog 128 #[.pointer (some ⟨p, 0, none⟩), .int .i64 0, .int .i64 1] w fun e w' => e = .returned (.int .i64 g.toNat) ∧ w = w' := by
  have h := afterBit_any p W g 0#W 1 w h1 h2 hc (by omega)
  rw [show (((0#W).toNat : Nat) : Int) = 0 from by simp] at h
  rwa [show fb g 0#W (decide ((1 : Int) = 1)) = g from fb_zero_true] at h
theorem afterNought_any (p W : Nat) (g r : BitVec W) (w : World) (h1 : 3 ≤ W) (h2 : W ≤ 24) (hc : CodeAt w p W g.toNat) :
    Calls Try.prog 128 #[.pointer (some ⟨p, 0, none⟩), .int .i64 r.toNat, .int .i64 0] w fun e w' => e = .returned (.int .i64 (fb g r false).toNat) ∧ w = w' := by
  have h := afterBit_any p W g r 0 w h1 h2 hc (by omega)
  rwa [show decide ((0 : Int) = 1) = false from by decide] at h
theorem afterOne_any (p W : Nat) (g r : BitVec W) (w : World) (h1 : 3 ≤ W) (h2 : W ≤ 24) (hc : CodeAt w p W g.toNat) :
    Calls Try.prog 128 #[.pointer (some ⟨p, 0, none⟩), .int .i64 r.toNat, .int .i64 1] w fun e w' => e = .returned (.int .i64 (fb g r true).toNat) ∧ w = w' := by
  have h := afterBit_any p W g r 1 w h1 h2 hc (by omega)
  rwa [show decide ((1 : Int) = 1) = true from by decide] at h
theorem one_zero {W : Nat} (g r : BitVec W) : (((fb g r true).toNat : Int) == 0) = decide (fb g r false = g) := by
  rw [beq_dec, decide_eq_decide, fb_true]
  constructor
  · intro h
    have h : fb g r false ^^^ g = 0#W := BitVec.eq_of_toNat_eq (by rw [show (0#W).toNat = 0 from by simp]; omega)
    have := congrArg (· ^^^ g) h
    simpa [BitVec.xor_assoc] using this
  · intro h; rw [h, BitVec.xor_self]; simp

end

section
open Go.RowKit

theorem se_1a {xs ys : List Int} (h : isBits xs = false) : sumErrors xs ys = ([], 1) := by unfold sumErrors; rw [if_pos (.inl h)]
theorem se_1b {xs ys : List Int} (h : isBits ys = false) : sumErrors xs ys = ([], 1) := by unfold sumErrors; rw [if_pos (.inr h)]
theorem se_5 {xs ys : List Int} (h1 : isBits xs = true) (h2 : isBits ys = true) (h : xs.length ≠ ys.length) : sumErrors xs ys = ([], 5) := by unfold sumErrors; rw [if_neg (by simp [h1, h2]), if_pos h]
theorem se_0 {xs ys : List Int} (h1 : isBits xs = true) (h2 : isBits ys = true) (h : xs.length = ys.length) : sumErrors xs ys = (xorL xs ys, 0) := by unfold sumErrors; rw [if_neg (by simp [h1, h2]), if_neg (by simp [h])]
theorem sumErrors_len (xs ys : List Int) : (sumErrors xs ys).1.length ≤ 8192 := by
  unfold sumErrors
  split
  · simp
  · split
    · simp
    · rename_i h1 h2
      obtain ⟨ha, hb⟩ := not_or.1 h1
      have hb : isBits ys = true := by simpa using hb
      have hl : xs.length = ys.length := by simpa using h2
      rw [xorL_len _ _ hl]
      exact (isBits_iff.1 hb).1
theorem xorL_getD (xs ys : List Int) (k : Nat) (h1 : k < xs.length) (h2 : k < ys.length) : (xorL xs ys).getD k 0 = bits .xor .i64 (xs.getD k 0) (ys.getD k 0) := by
  simp [xorL, List.getD, h1, h2, List.getElem?_zipWith]
theorem xorL_take (xs ys : List Int) (k : Nat) (h : xs.length = ys.length) (hk : k < xs.length) : (xorL xs ys).take (k + 1) = (xorL xs ys).take k ++ [bits .xor .i64 (xs.getD k 0) (ys.getD k 0)] := by
  rw [take_succ' _ k (by rw [xorL_len _ _ h]; omega), xorL_getD xs ys k hk (by omega)]
theorem sumErrors_any (ao bo : Option Addr) (n m cap cap' : Nat) (xs ys : List Int) (w : World) (hr : Rd w ao n xs) (hr' : Rd w bo m ys) (hn : n ≤ 1048576) (hn' : m ≤ 1048576) :
    Calls Try.prog 94 #[.slice ao n cap, .slice bo m cap'] w (Makes2 2 w (sumErrors xs ys).1 (sumErrors xs ys).2) := by
  obtain rfl : xs.length = n := hr.len
  obtain rfl : ys.length = m := hr'.len
  by_cases hb : isBits xs = true
  · by_cases hb2 : isBits ys = true
    · by_cases hl : xs.length = ys.length
      · rw [se_0 hb hb2 hl]
        have hxl := xorL_len xs ys hl
        have hget := fun k (hk : k < ys.length) => xorL_getD xs ys k (by omega) hk
        rw [hl] at hr hn ⊢
        have HB := Lib.hid hb; clear hb
        have HB2 := Lib.hid hb2; clear hb2 hl hn'
        obtain ⟨n, hn0⟩ : ∃ n, n = ys.length := ⟨_, rfl⟩
        rw [← hn0] at hr hr' hn hxl hget ⊢
        clear hn0
        have hne : ((n : Int) != (n : Int)) = false := by simp
        obtain ⟨zs, hzs⟩ : ∃ zs, zs = xorL xs ys := ⟨_, rfl⟩
        rw [← hzs] at hxl hget ⊢
        clear hzs
        have HXL := Lib.hid hxl; clear hxl
        have HG := Lib.hid hget; clear hget
        go_enter Try.func94, Try.ntmps94
        go_wp2_with fail
        refine (isBits_any _ _ _ _ _ hr (by omega)).mono ?_
        rintro e w' ⟨rfl, rfl⟩
        rw [HB.out]
        go_wp2_with fail
        refine (isBits_any _ _ _ _ _ hr' (by omega)).mono ?_
        rintro e w' ⟨rfl, rfl⟩
        rw [HB2.out]
        go_wp2_with (at_make; refine make_cap _ rfl _ _ rfl w.heap.size Try.underlying34 info64 _ _ _ _ n n rfl rfl rfl rfl (Nat.le_refl _) (by omega) (Nat.le_refl _) ?_; intro w1 o1 b1)
        have o1' : Own 2 w1 w.heap.size (.slice (some ⟨w.heap.size, 0, none⟩) n n) (fillTo zs 0) := by rw [fillTo_zero, HXL.out]; exact o1
        clear o1 hne
        go_loopw [26] (fun i wr => ∃ k : Nat, k ≤ n ∧ i = .int .i64 k ∧ Own 2 wr w.heap.size (.slice (some ⟨w.heap.size, 0, none⟩) n n) (fillTo zs k) ∧ Below w.heap.size w wr) (fun i _ => n - (intOf i).toNat)
        case atStart => exact ⟨0, Nat.zero_le _, rfl, o1', b1⟩
        case round =>
          clear o1' b1
          obtain ⟨k, hk, rfl, hown, hbel⟩ := hrel
          by_cases hlt : k < n
          · obtain ⟨b, off, rfl, hc⟩ := (hr.below hbel).here (by omega)
            obtain ⟨b', off', rfl, hc'⟩ := (hr'.below hbel).here (by omega)
            have hck := hc k hlt
            have hck' := hc' k hlt
            have hlk : (k : Int) < (n : Int) := by omega
            clear hc hc'
            have hky : k < zs.length := by rw [HXL.out]; exact hlt
            have hfl := fillTo_len zs k (by omega)
            have hzg := HG.out k hlt
            obtain ⟨x, hx⟩ : ∃ x, x = xs.getD k 0 := ⟨_, rfl⟩
            obtain ⟨y, hy⟩ : ∃ y, y = ys.getD k 0 := ⟨_, rfl⟩
            rw [← hx] at hck hzg
            rw [← hy] at hck' hzg
            clear hx hy
            obtain ⟨hdst, hfz, hown', hbel'⟩ := own_store hown (hfl.trans HXL.out) hlt (zs.getD k 0)
            rw [fillTo_succ zs k hky, hzg] at hown'
            rw [hzg] at hbel'
            obtain ⟨z, hz⟩ : ∃ z, z = (fillTo zs k).getD k 0 := ⟨_, rfl⟩
            rw [← hz] at hdst
            have HO := Lib.hid hown'; clear hown' hown
            have HBE := Lib.hid (hbel.trans hbel'); clear hbel hbel' hz hfl hky hzg
            go_wp2
            go_region
            go_wp2
            go_roundw
            case rel => exact ⟨k + 1, by omega, by go_num, HO.out.below (below_drewN' (Below.refl _ _) 1), below_drewN' HBE.out 1⟩
            case measure => simp [intOf]; omega
          · have hkn : k = n := by omega
            subst hkn
            have h := hown
            rw [← HXL.out, fillTo_all, HXL.out] at h
            have HO := Lib.hid h; clear hown h
            go_wp2
            go_ret2
            exact ⟨_, rfl, HO.out, hbel⟩
      · rw [se_5 hb hb2 hl]
        have HB := Lib.hid hb; clear hb
        have HB2 := Lib.hid hb2; clear hb2
        have hne : ((xs.length : Int) != (ys.length : Int)) = true := by simp; omega
        clear hl
        go_enter Try.func94, Try.ntmps94
        go_wp2_with fail
        refine (isBits_any _ _ _ _ _ hr (by omega)).mono ?_
        rintro e w' ⟨rfl, rfl⟩
        rw [HB.out]
        go_wp2_with fail
        refine (isBits_any _ _ _ _ _ hr' (by omega)).mono ?_
        rintro e w' ⟨rfl, rfl⟩
        rw [HB2.out]
        go_wp2
        go_ret2
        exact ⟨_, rfl, Own.nil_, Below.refl _ _⟩
    · have hb2' : isBits ys = false := by simpa using hb2
      rw [se_1b hb2']
      have HB := Lib.hid hb; clear hb
      have HB2 := Lib.hid hb2'; clear hb2 hb2'
      go_enter Try.func94, Try.ntmps94
      go_wp2_with fail
      refine (isBits_any _ _ _ _ _ hr (by omega)).mono ?_
      rintro e w' ⟨rfl, rfl⟩
      rw [HB.out]
      go_wp2_with fail
      refine (isBits_any _ _ _ _ _ hr' (by omega)).mono ?_
      rintro e w' ⟨rfl, rfl⟩
      rw [HB2.out]
      go_wp2
      go_ret2
      exact ⟨_, rfl, Own.nil_, Below.refl _ _⟩
  · have hb' : isBits xs = false := by simpa using hb
    rw [se_1a hb']
    have HB := Lib.hid hb'; clear hb hb'
    go_enter Try.func94, Try.ntmps94
    go_wp2_with fail
    refine (isBits_any _ _ _ _ _ hr (by omega)).mono ?_
    rintro e w' ⟨rfl, rfl⟩
    rw [HB.out]
    go_wp2
    go_ret2
    exact ⟨_, rfl, Own.nil_, Below.refl _ _⟩

end

section
open Go.RowKit

theorem burstTo_le (xs : List Int) (k : Nat) : (burstTo xs k).1 ≤ k ∧ (burstTo xs k).2 ≤ k := by
  rcases burst_ok xs k with ⟨h1, h2, -⟩ | ⟨-, h2, -⟩ <;> omega
theorem burst_le (xs : List Int) : (burst xs).1 ≤ xs.length ∧ (burst xs).2 ≤ xs.length := burstTo_le xs xs.length
theorem burst_eq {xs : List Int} {f j : Nat} (hf : xs.getD f 0 ≠ 0) (hfb : ∀ i, i < f → xs.getD i 0 = 0) (hj : xs.getD j 0 ≠ 0) (hjb : ∀ i, j < i → xs.getD i 0 = 0) (hfj : f ≤ j) (hjn : j < xs.length) : burst xs = (f, j - f + 1) := by
  have hb := burst_ok xs xs.length
  change BurstOk xs xs.length (burst xs).1 (burst xs).2 at hb
  rcases hb with ⟨-, -, h3⟩ | ⟨h1, h2, h3, h4, h5⟩
  · exact absurd (h3 f (by omega)) hf
  · have e1 : (burst xs).1 = f := by
      rcases Nat.lt_trichotomy (burst xs).1 f with h | h | h
      · exact absurd (hfb _ h) h3
      · exact h
      · exact absurd (h5 f (by omega) (.inl h)) hf
    have e2 : (burst xs).1 + (burst xs).2 - 1 = j := by
      rcases Nat.lt_trichotomy ((burst xs).1 + (burst xs).2 - 1) j with h | h | h
      · exact absurd (h5 j hjn (.inr (by omega))) hj
      · exact h
      · exact absurd (hjb _ h) h4
    apply Prod.ext
    · exact e1
    · show (burst xs).2 = j - f + 1
      omega
theorem burst_none {xs : List Int} (hb : ∀ x ∈ xs, 0 ≤ x ∧ x ≤ 1) (h : ∀ j, j < xs.length → xs.getD j 0 ≠ 1) : (burst xs).2 = 0 := by
  have hk := burst_ok xs xs.length
  change BurstOk xs xs.length (burst xs).1 (burst xs).2 at hk
  rcases hk with ⟨h1, -, -⟩ | ⟨h1, h2, h3, -, -⟩
  · exact h1
  · have h4 := hb _ (getD_mem' (xs := xs) (k := (burst xs).1) (by omega))
    have h5 := h (burst xs).1 (by omega)
    omega
theorem burstTo_same {xs : List Int} {k : Nat} (h : xs.getD k 0 = 0) : burstTo xs (k + 1) = burstTo xs k := by simp only [burstTo]; rw [if_pos h]
theorem burstTo_new {xs : List Int} {k : Nat} (h : xs.getD k 0 ≠ 0) (h2 : (burstTo xs k).2 = 0) : burstTo xs (k + 1) = (k, 1) := by simp only [burstTo]; rw [if_neg h, if_pos h2]
theorem burstTo_more {xs : List Int} {k : Nat} (h : xs.getD k 0 ≠ 0) (h2 : (burstTo xs k).2 ≠ 0) : burstTo xs (k + 1) = ((burstTo xs k).1, k - (burstTo xs k).1 + 1) := by simp only [burstTo]; rw [if_neg h, if_neg h2]

theorem bo_1 {xs : List Int} (h : isBits xs = false) : burstOf xs = (0, 0, 1) := by unfold burstOf; rw [if_pos h]
theorem bo_4 {xs : List Int} (h : isBits xs = true) (h2 : (burst xs).2 = 0) : burstOf xs = (0, 0, 4) := by unfold burstOf; rw [if_neg (by simp [h]), if_pos h2]
theorem bo_0 {xs : List Int} (h : isBits xs = true) (h2 : (burst xs).2 ≠ 0) : burstOf xs = (((burst xs).1 : Int), ((burst xs).2 : Int), 0) := by unfold burstOf; rw [if_neg (by simp [h]), if_neg h2]
end

section
open Go.RowKit

theorem CodeAt.below {p W B : Nat} {G : Int} {w w' : World} (h : CodeAt w p W G) (hb : Below B w w') (hp : p < B) : CodeAt w' p W G :=
  ⟨(hb.cell (p := ⟨p, 0, none⟩) hp).trans h.1, (hb.cell (p := ⟨p, 1, none⟩) hp).trans h.2⟩
theorem CodeAt.lt {p W : Nat} {G : Int} {w : World} (h : CodeAt w p W G) : p < w.heap.size := World.block_lt_of_cell? _ _ h.1

end

section
open Go.RowKit

theorem own_two {E base : Nat} {w : World} (hb : base ≤ w.heap.size) (a b : Int) : Own E (w.alloc (.cells #[.int .i64 a, .int .i64 b] E)) base (.slice (some ⟨w.heap.size, 0, none⟩) 2 2) [a, b] :=
  ⟨rfl, .inr ⟨w.heap.size, 2, _, rfl, hb, heap_alloc_new w _, by simp, by unfold maxLen; omega, rfl, rfl⟩⟩
theorem own_three {E base : Nat} {w : World} (hb : base ≤ w.heap.size) (a b c : Int) : Own E (w.alloc (.cells #[.int .i64 a, .int .i64 b, .int .i64 c] E)) base (.slice (some ⟨w.heap.size, 0, none⟩) 3 3) [a, b, c] :=
  ⟨rfl, .inr ⟨w.heap.size, 3, _, rfl, hb, heap_alloc_new w _, by simp, by unfold maxLen; omega, rfl, rfl⟩⟩
theorem synd_pos {W : Nat} {g : BitVec W} (hg : g.getLsbD 0 = true) (n i : Nat) : (((synd g n i).toNat : Int) == 0) = false := by
  have h := synd_ne hg n i
  have h2 : (synd g n i).toNat ≠ 0 := fun e => h (BitVec.eq_of_toNat_eq (by rw [e]; simp))
  simpa using h2

end

section
open Go.RowKit Go.Maps

theorem zero64 (w : World) : (zeroValue 2).run Try.prog w = .ok (.int .i64 0) w := by kernel_rfl
/-- The map of the program: syndromes to indices. -/
abbrev MapAt (w : World) (b n : Nat) (f : Int → Option Int) : Prop := MapIs Try.prog 2 2 w b n f

/-- What the search leaves: the indices in a slice of the call's own; nil where there are none. -/
def Ones (E : Nat) (w : World) (l : List Int) (e : Ending) (w' : World) : Prop :=
  ∃ v, e = .returned v ∧ Own E w' w.heap.size v l ∧ Below w.heap.size w w' ∧ (l = [] → v = .slice none 0 0)
end

section
open Go.RowKit

theorem spanCode_1 {wd p span : Int} (h : isCrc wd p = false) : spanCode wd p span = 1 := by unfold spanCode; rw [if_pos h]
theorem spanCode_2 {wd p span : Int} (h : isCrc wd p = true) (h2 : ¬ (1 ≤ span ∧ span ≤ 64)) : spanCode wd p span = 2 := by unfold spanCode; rw [if_neg (by simp [h]), if_pos h2]
theorem spanCode_0 {wd p span : Int} (h : isCrc wd p = true) (h2 : 1 ≤ span ∧ span ≤ 64) : spanCode wd p span = 0 := by unfold spanCode; rw [if_neg (by simp [h]), if_neg (by simp; omega)]
theorem spanCode_get {wd p span : Int} (h : spanCode wd p span = 0) : isCrc wd p = true ∧ 1 ≤ span ∧ span ≤ 64 := by
  rcases hI : isCrc wd p with _ | _
  · rw [spanCode_1 hI] at h; omega
  · by_cases h2 : 1 ≤ span ∧ span ≤ 64
    · exact ⟨rfl, h2⟩
    · rw [spanCode_2 hI h2] at h; omega
theorem fo_code {wd p span : Int} (h : spanCode wd p span ≠ 0) : firstOf wd p span = ([], spanCode wd p span) := by unfold firstOf; rw [if_pos h]
theorem fo_4 {W n : Nat} {g : BitVec W} (h : spanCode (W : Int) (g.toNat : Int) (n : Int) = 0) (h2 : firstMissed g n = []) : firstOf (W : Int) (g.toNat : Int) (n : Int) = ([], 4) := by
  unfold firstOf
  rw [if_neg (by simp [h]), Int.toNat_natCast, Int.toNat_natCast, Int.toNat_natCast, show BitVec.ofNat W g.toNat = g from by simp, if_pos h2]
theorem fo_0 {W n : Nat} {g : BitVec W} (h : spanCode (W : Int) (g.toNat : Int) (n : Int) = 0) (h2 : firstMissed g n ≠ []) : firstOf (W : Int) (g.toNat : Int) (n : Int) = (firstMissed g n, 0) := by
  unfold firstOf
  rw [if_neg (by simp [h]), Int.toNat_natCast, Int.toNat_natCast, Int.toNat_natCast, show BitVec.ofNat W g.toNat = g from by simp, if_neg h2]
theorem lo_code {wd p span : Int} (h : spanCode wd p span ≠ 0) : leastOf wd p span = (0, spanCode wd p span) := by unfold leastOf; rw [if_pos h]
theorem lo_4 {W n : Nat} {g : BitVec W} (h : spanCode (W : Int) (g.toNat : Int) (n : Int) = 0) (h2 : firstMissed g n = []) : leastOf (W : Int) (g.toNat : Int) (n : Int) = (4, 0) := by
  unfold leastOf leastWeight
  rw [if_neg (by simp [h]), Int.toNat_natCast, Int.toNat_natCast, Int.toNat_natCast, show BitVec.ofNat W g.toNat = g from by simp, h2]; rfl
theorem lo_0 {W n : Nat} {g : BitVec W} (h : spanCode (W : Int) (g.toNat : Int) (n : Int) = 0) (h2 : firstMissed g n ≠ []) : leastOf (W : Int) (g.toNat : Int) (n : Int) = (((firstMissed g n).length : Int), 0) := by
  unfold leastOf leastWeight
  rw [if_neg (by simp [h]), Int.toNat_natCast, Int.toNat_natCast, Int.toNat_natCast, show BitVec.ofNat W g.toNat = g from by simp, if_neg (by simpa using h2)]
theorem firstMissed_len {W : Nat} {g : BitVec W} (hg : g.getLsbD 0 = true) (n : Nat) : (firstMissed g n).length ≤ 3 := by
  rcases firstMissed_cases hg n with ⟨i, k, -, -, h, -⟩ | ⟨-, i, k, j, -, -, -, h, -⟩ | ⟨-, -, h⟩ <;> rw [h] <;> simp
theorem firstOf_len (wd p span : Int) : (firstOf wd p span).1.length ≤ 3 := by
  by_cases h : spanCode wd p span = 0
  · obtain ⟨hI, hs⟩ := spanCode_get h
    obtain ⟨W, g, rfl, h1, h2, rfl, hg⟩ := isCrc_get hI
    obtain ⟨n, rfl⟩ := Int.eq_ofNat_of_zero_le (show 0 ≤ span by omega)
    by_cases hf : firstMissed g n = []
    · rw [fo_4 h hf]; simp
    · rw [fo_0 h hf]; exact firstMissed_len hg n
  · rw [fo_code h]; simp

end

section
open Go.RowKit

/-- One of the reasons for which an error is found, as the document has it (an order greater than 5000 counts as greater). -/
def reasonI (wd p : Int) (xs : List Int) : Bool :=
  (decide (weight xs % 2 = 1) && decide (weight (bitsOf p wd.toNat) % 2 = 1)) || decide (((burst xs).2 : Int) ≤ wd) || (decide (weight xs = 2) && decide (5000 < order (BitVec.ofNat wd.toNat p.toNat) ∨ ((burst xs).2 : Int) - 1 < (order (BitVec.ofNat wd.toNat p.toNat) : Int)))
def isFoundI (wd p : Int) (xs : List Int) : Bool × Int :=
  if isCrc wd p = false then (false, 1) else if isBits xs = false ∨ weight xs = 0 then (false, 3) else (reasonI wd p xs, 0)
/-- Up to 5001 bits the two are one. -/
theorem isFound_same {wd p : Int} {xs : List Int} (h : xs.length ≤ 5001) : isFoundI wd p xs = isFound wd p xs := by
  unfold isFoundI isFound
  have hr : reasonI wd p xs = reason wd p xs := by
    unfold reasonI reason
    have hl := burst_le xs
    have hd : decide (5000 < order (BitVec.ofNat wd.toNat p.toNat) ∨ ((burst xs).2 : Int) - 1 < (order (BitVec.ofNat wd.toNat p.toNat) : Int)) = decide (((burst xs).2 : Int) - 1 < (order (BitVec.ofNat wd.toNat p.toNat) : Int)) := by
      rw [decide_eq_decide]; omega
    rw [hd]
  rw [hr]
theorem isFound_zero {wd p : Int} {xs : List Int} (h : weight xs = 0) : isFoundI wd p xs = isFound wd p xs := by
  unfold isFoundI isFound
  by_cases hI : isCrc wd p = false
  · rw [if_pos hI, if_pos hI]
  · rw [if_neg hI, if_neg hI, if_pos (Or.inr h), if_pos (Or.inr h)]
theorem burst_weight0 {xs : List Int} (hb : ∀ x ∈ xs, 0 ≤ x ∧ x ≤ 1) : (burst xs).2 = 0 ↔ weight xs = 0 := by
  constructor
  · intro h
    have hk := burst_ok xs xs.length
    change BurstOk xs xs.length (burst xs).1 (burst xs).2 at hk
    rcases hk with ⟨-, -, h3⟩ | ⟨h1, -⟩
    · have e : xs = List.replicate xs.length 0 := List.eq_replicate_iff.2 ⟨rfl, fun x hx => by
        obtain ⟨j, hj, e⟩ := (getD_mem_iff xs x).1 hx
        rw [← e]; exact h3 j hj⟩
      rw [e, weight_zeros]
    · omega
  · intro h
    refine burst_none hb fun j hj e => ?_
    have := weight_pos hb j e
    omega
theorem fi_1 {wd p : Int} {xs : List Int} (h : isCrc wd p = false) : isFoundI wd p xs = (false, 1) := by unfold isFoundI; rw [if_pos h]
theorem fi_3 {wd p : Int} {xs : List Int} (h : isCrc wd p = true) (h2 : isBits xs = false ∨ weight xs = 0) : isFoundI wd p xs = (false, 3) := by unfold isFoundI; rw [if_neg (by simp [h]), if_pos h2]
theorem fi_0 {W : Nat} {g : BitVec W} {xs : List Int} (h : isCrc (W : Int) (g.toNat : Int) = true) (h2 : isBits xs = true) (h3 : weight xs ≠ 0) : isFoundI (W : Int) (g.toNat : Int) xs =
    ((decide (weight xs % 2 = 1) && decide (weight (bitsOf (g.toNat : Int) W) % 2 = 1)) || decide (((burst xs).2 : Int) ≤ (W : Int)) || (decide (weight xs = 2) && decide (5000 < order g ∨ ((burst xs).2 : Int) - 1 < (order g : Int))), 0) := by
  unfold isFoundI reasonI
  rw [if_neg (by simp [h]), if_neg (by simp [h2, h3]), Int.toNat_natCast, Int.toNat_natCast, show BitVec.ofNat W g.toNat = g from by simp]
theorem bo_code {xs : List Int} (h : isBits xs = false ∨ weight xs = 0) : (burstOf xs).2.2 ≠ 0 := by
  rcases hb : isBits xs with _ | _
  · rw [bo_1 hb]; simp
  · have h2 : weight xs = 0 := by rcases h with h | h; · rw [h] at hb; cases hb
                                  · exact h
    rw [bo_4 hb ((burst_weight0 (isBits_iff.1 hb).2).2 h2)]; simp
theorem bo_ok {xs : List Int} (h : isBits xs = true) (h2 : weight xs ≠ 0) : burstOf xs = (((burst xs).1 : Int), ((burst xs).2 : Int), 0) :=
  bo_0 h fun e => h2 ((burst_weight0 (isBits_iff.1 h).2).1 e)

theorem fs_1 {wd p : Int} {xs : List Int} (h : isCrc wd p = false) : isFound wd p xs = (false, 1) := by unfold isFound; rw [if_pos h]
theorem fs_3 {wd p : Int} {xs : List Int} (h : isCrc wd p = true) (h2 : isBits xs = false ∨ weight xs = 0) : isFound wd p xs = (false, 3) := by unfold isFound; rw [if_neg (by simp [h]), if_pos h2]
theorem fs_0 {W : Nat} {g : BitVec W} {xs : List Int} (h : isCrc (W : Int) (g.toNat : Int) = true) (h2 : isBits xs = true) (h3 : weight xs ≠ 0) : isFound (W : Int) (g.toNat : Int) xs =
    ((decide (weight xs % 2 = 1) && decide (weight (bitsOf (g.toNat : Int) W) % 2 = 1)) || decide (((burst xs).2 : Int) ≤ (W : Int)) || (decide (weight xs = 2) && decide (((burst xs).2 : Int) - 1 < (order g : Int))), 0) := by
  unfold isFound reason
  rw [if_neg (by simp [h]), if_neg (by simp [h2, h3]), Int.toNat_natCast, Int.toNat_natCast, show BitVec.ofNat W g.toNat = g from by simp]
end
end Go.Proofs.Ytdcalkobcdeclaa
