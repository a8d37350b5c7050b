/-
  Chapter 2: a register fed with a bit and with a list of bits, on both sides; valid codes.
  spec.l02Feed.
  Valid codes on both sides; the errors in common.
  spec.l02Code; CrcOfBits, SyndromeOf, SeedAfter on the specification's side.
  impl.newCyclicCode: a struct with a table of 256 numbers in a block of the call's own.
  impl.newCyclicCode, walked.
  impl.CrcOfBits, SyndromeOf, SeedAfter.
-/
import Derived.Test.YtbdfnkhmnglpbaaReg
import Derived.Test.YtbdfnkhmnglpbaaOne
import Derived.Deep.QuietTactic
import Derived.BigQuiet
import Derived.StillTailTactics
namespace Go.Proofs.Ytbdfnkhmnglpbaa
section
open Go.RowKit

/-- A quiet call whose contract says 'w = w''. -/
theorem quiet_w {P : Program} {f : FuncId} {args : Array Value} {w : World} {n : Nat} {v : Value}
    (h : Calls P f args (w.drewN n) fun e w' => e = .returned v ∧ w.drewN n = w') : Calls P f args (w.drewN n) fun e w'' => e = .returned v ∧ ∃ m, w'' = w.drewN m :=
  h.mono fun _ _ ⟨he, hm⟩ => ⟨he, n, hm.symm⟩
/-- impl.greatestRegister. -/
theorem great_any (W : Nat) (w : World) (h : W ≤ 24) : Calls Try.prog 160 #[.int .i64 W] w fun e w' => e = .returned (.int .i64 (2 ^ W - 1)) ∧ w = w' := by
  have hp := pow40 W (by omega)
  go_enter Try.func160, Try.ntmps160
  go_wp2
  go_ret
  exact ⟨rfl, rfl⟩
/-- The first two cells of a cyclicCode, or of a Crc: width and polynomial. -/
def CodeAt (w : World) (p W : Nat) (G : Int) : Prop := w.cell? ⟨p, 0, none⟩ = some (.int .i64 W) ∧ w.cell? ⟨p, 1, none⟩ = some (.int .i64 G)
theorem afterBit_any (p W : Nat) (g r : BitVec W) (B : Int) (w : World) (h1 : 3 ≤ W) (h2 : W ≤ 24) (hc : CodeAt w p W g.toNat) (hB : 0 ≤ B ∧ B ≤ 1) :
    Calls Try.prog 150 #[.pointer (some ⟨p, 0, none⟩), .int .i64 r.toNat, .int .i64 B] w fun e w' => e = .returned (.int .i64 (fb g r (decide (B = 1))).toNat) ∧ w = w' := by
  obtain ⟨hc0, hc1⟩ := hc
  have hp := pow40 W (by omega)
  have hr := reg_lt h2 r
  have ht := step_ne (r := r) (W := W) (by omega) B hB
  have hd := reg_double (r := r) h2
  rcases hm : (r.msb ^^ decide (B = 1)) with _ | _
  · rw [hm] at ht
    rw [fb_f hm]
    obtain ⟨R, hR⟩ : ∃ R, R = (r.toNat : Int) := ⟨_, rfl⟩
    obtain ⟨D, hD⟩ : ∃ D, D = ((r <<< 1).toNat : Int) := ⟨_, rfl⟩
    rw [← hR] at ht hd hr ⊢
    rw [← hD] at hd ⊢
    obtain ⟨hr0, hr1⟩ := hr
    have HD := Lib.hid hd; clear hd hR hD hm
    go_enter Try.func150, Try.ntmps150
    go_wp2_with fail
    refine (great_any _ _ h2).mono ?_
    rintro e w' ⟨rfl, rfl⟩
    go_wp2
    go_ret
    exact ⟨ret_int HD.out, rfl⟩
  · rw [hm] at ht
    rw [fb_t hm]
    have hx := reg_xor h2 (r <<< 1) g
    rw [← hd] at hx
    obtain ⟨R, hR⟩ : ∃ R, R = (r.toNat : Int) := ⟨_, rfl⟩
    obtain ⟨D, hD⟩ : ∃ D, D = ((r <<< 1 ^^^ g).toNat : Int) := ⟨_, rfl⟩
    obtain ⟨G, hG⟩ : ∃ G, G = (g.toNat : Int) := ⟨_, rfl⟩
    rw [← hR] at ht hx hr ⊢
    rw [← hD] at hx ⊢
    rw [← hG] at hx hc1
    obtain ⟨hr0, hr1⟩ := hr
    have HD := Lib.hid hx; clear hd hx hR hD hG hm
    go_enter Try.func150, Try.ntmps150
    go_wp2_with fail
    refine (great_any _ _ h2).mono ?_
    rintro e w' ⟨rfl, rfl⟩
    go_wp2
    go_ret
    exact ⟨ret_int HD.out, rfl⟩

theorem afterBits_any (p W : Nat) (g r : BitVec W) (ao : Option Addr) (n cap : Nat) (xs : List Int) (w : World) (h1 : 3 ≤ W) (h2 : W ≤ 24) (hc : CodeAt w p W g.toNat) (hr : Rd w ao n xs) (hn : n ≤ 1048576) (hbits : ∀ x ∈ xs, 0 ≤ x ∧ x ≤ 1) :
    Calls Try.prog 121 #[.pointer (some ⟨p, 0, none⟩), .int .i64 r.toNat, .slice ao n cap] w fun e w' => e = .returned (.int .i64 (regOf g r xs)) ∧ w = w' := by
  obtain ⟨hlen, hat⟩ := hr
  have HL := Lib.hid hlen; clear hlen
  have HA := Lib.hid hat; clear hat
  have HZ := Lib.hid hbits; clear hbits
  have HC := Lib.hid hc; clear hc
  go_enter Try.func121, Try.ntmps121
  go_wp2
  go_loop [1, 11] (fun v i => ∃ (k : Nat) (y : BitVec W), k ≤ n ∧ i = .int .i64 k ∧ v = .int .i64 y.toNat ∧ Hid (fbs g r (bl (xs.take k)) = y)) (fun _ i => n - (intOf i).toNat)
  case atStart => exact ⟨0, r, Nat.zero_le _, rfl, rfl, rfl⟩
  case round =>
    obtain ⟨k, y, hk, rfl, rfl, HY⟩ := hrel
    by_cases hlt : k < n
    · obtain ⟨b, off, rfl, hall⟩ := HA.out (by omega)
      have hck := hall k hlt
      clear hall
      have hkx : k < xs.length := by rw [HL.out]; exact hlt
      have hb0 := HZ.out (xs.getD k 0) (getD_mem' hkx)
      have hfin : fbs g r (bl (xs.take (k + 1))) = fb g y (decide (xs.getD k 0 = 1)) := by rw [fbs_take xs k hkx, HY.out]
      obtain ⟨x, hx⟩ : ∃ x, x = xs.getD k 0 := ⟨_, rfl⟩
      rw [← hx] at hck hb0 hfin
      obtain ⟨z, hz⟩ : ∃ z, z = fb g y (decide (x = 1)) := ⟨_, rfl⟩
      rw [← hz] at hfin
      have HF := Lib.hid hfin; clear hfin hx hkx HZ
      have HZ := Lib.hid hz; clear hz
      have HB := Lib.hid hb0; clear hb0
      go_wp2_with fail
      refine (afterBit_any p W g y x _ h1 h2 HC.out HB.out).mono ?_
      rintro e w' ⟨rfl, rfl⟩
      rw [← HZ.out]
      go_wp2
      go_round
      case rel => exact ⟨k + 1, z, by omega, by go_num, rfl, HF.out⟩
      case measure => simp [intOf]; omega
    · have hkn : k = n := by omega
      subst hkn
      have hfin : (y.toNat : Int) = regOf g r xs := by unfold regOf; rw [← HY.out, List.take_of_length_le (by rw [HL.out]; exact Nat.le_refl _)]
      have HF := Lib.hid hfin; clear hfin
      go_wp2
      go_ret
      exact ⟨ret_int HF.out, rfl⟩
end

section
open Go.RowKit

theorem feed_any (W : Nat) (g r : BitVec W) (ao : Option Addr) (n cap : Nat) (xs : List Int) (w : World) (h1 : 3 ≤ W) (h2 : W ≤ 24) (hr : Rd w ao n xs) (hn : n ≤ 1048576) (hbits : ∀ x ∈ xs, 0 ≤ x ∧ x ≤ 1) :
    Calls Try.prog 124 #[.agg #[.int .i64 W, .int .i64 g.toNat], .int .i64 r.toNat, .slice ao n cap] w fun e w' => e = .returned (.int .i64 (regOf g r xs)) ∧ Below w.heap.size w w' := by
  obtain ⟨hlen, hat⟩ := hr
  have HL := Lib.hid hlen; clear hlen
  have HA := Lib.hid hat; clear hat
  have HZ := Lib.hid hbits; clear hbits
  have hp := pow40 W (by omega)
  have hp1 := pow40 (W - 1) (by omega)
  obtain ⟨G, hG⟩ : ∃ G, G = (g.toNat : Int) := ⟨_, rfl⟩
  rw [← hG]
  have HG := Lib.hid hG; clear hG
  have hb0 : Below w.heap.size w (w.alloc (.cells #[.int .i64 W, .int .i64 G] 138)) := (Below.refl _ _).alloc (Nat.le_refl _) _
  go_enter Try.func124, Try.ntmps124
  go_wp2
  go_loopw [1, 8] (fun v i wr => ∃ (k : Nat) (y : BitVec W) (q : Nat), k ≤ n ∧ i = .int .i64 k ∧ v = .int .i64 y.toNat ∧ Hid (fbs g r (bl (xs.take k)) = y) ∧ wr = (w.alloc (.cells #[.int .i64 W, .int .i64 G] 138)).drewN q) (fun _ i _ => n - (intOf i).toNat)
  case atStart => exact ⟨0, r, 0, Nat.zero_le _, rfl, rfl, rfl, rfl⟩
  case round =>
    obtain ⟨k, y, q, hk, rfl, rfl, HY, rfl⟩ := hrel
    by_cases hlt : k < n
    · obtain ⟨b, off, rfl, hall⟩ := HA.out (by omega)
      have hck := hall k hlt
      have hblt : b < w.heap.size := World.block_lt_of_cell? w _ hck
      clear hall
      have hkx : k < xs.length := by rw [HL.out]; exact hlt
      have hbx := HZ.out (xs.getD k 0) (getD_mem' hkx)
      have hfin : fbs g r (bl (xs.take (k + 1))) = fb g y (decide (xs.getD k 0 = 1)) := by rw [fbs_take xs k hkx, HY.out]
      obtain ⟨x, hx⟩ : ∃ x, x = xs.getD k 0 := ⟨_, rfl⟩
      rw [← hx] at hck hbx hfin
      clear hx hkx HZ HY HA HL
      have hck' := (hb0.cell (p := ⟨b, off + k, none⟩) hblt).trans hck
      have ht := step_xor (r := y) (W := W) (by omega) x hbx
      have hrm := reg_rem (r := y) (W := W) (by omega)
      have hy := reg_lt h2 y
      rcases hm : (y.msb ^^ decide (x = 1)) with _ | _
      · rw [hm] at ht
        rw [fb_f hm] at hfin
        obtain ⟨R, hR⟩ : ∃ R, R = (y.toNat : Int) := ⟨_, rfl⟩
        obtain ⟨D, hD⟩ : ∃ D, D = ((y <<< 1).toNat : Int) := ⟨_, rfl⟩
        rw [← hR] at ht hrm hy ⊢
        rw [← hD] at hrm
        obtain ⟨hr0, hr1⟩ := hy
        have HD := Lib.hid hD; clear hD
        have HF := Lib.hid hfin; clear hfin hm hR
        have HRM := Lib.hid hrm; clear hrm
        go_wp2
        go_quiet (fail)
        go_wp2
        go_roundw
        case rel => exact ⟨k + 1, y <<< 1, _, by omega, by go_num, by rw [HRM.out, HD.out], HF.out, rfl⟩
        case measure => simp [intOf]; omega
      · rw [hm] at ht
        rw [fb_t hm] at hfin
        have hx := reg_xor h2 (y <<< 1) g
        rw [← hrm, ← HG.out] at hx
        obtain ⟨R, hR⟩ : ∃ R, R = (y.toNat : Int) := ⟨_, rfl⟩
        obtain ⟨D, hD⟩ : ∃ D, D = ((y <<< 1 ^^^ g).toNat : Int) := ⟨_, rfl⟩
        rw [← hR] at ht hx hy ⊢
        rw [← hD] at hx
        obtain ⟨hr0, hr1⟩ := hy
        have HD := Lib.hid hD; clear hD
        have HF := Lib.hid hfin; clear hfin hm hR hrm
        have HX := Lib.hid hx; clear hx
        go_wp2
        go_quiet (fail)
        go_wp2
        go_roundw
        case rel => exact ⟨k + 1, y <<< 1 ^^^ g, _, by omega, by go_num, by rw [HX.out, HD.out], HF.out, rfl⟩
        case measure => simp [intOf]; omega
    · have hkn : k = n := by omega
      subst hkn
      have hfin : (y.toNat : Int) = regOf g r xs := by unfold regOf; rw [← HY.out, List.take_of_length_le (by rw [HL.out]; exact Nat.le_refl _)]
      have HF := Lib.hid hfin; clear hfin
      have HB := Lib.hid (below_drewN' hb0 q); clear hb0
      go_wp2
      go_ret
      exact ⟨ret_int HF.out, HB.out⟩
end

section
open Go.RowKit

theorem isCrc_lowW {wd p : Int} (h : wd < 3) : isCrc wd p = false := by unfold isCrc; rw [decide_eq_false (show ¬ 3 ≤ wd by omega)]; rfl
theorem isCrc_highW {wd p : Int} (h : 24 < wd) : isCrc wd p = false := by unfold isCrc; rw [decide_eq_false (show ¬ wd ≤ 24 by omega)]; simp
theorem isCrc_lowP {wd p : Int} (h : p < 1) : isCrc wd p = false := by unfold isCrc; rw [decide_eq_false (show ¬ 1 ≤ p by omega)]; simp
theorem isCrc_highP {W : Nat} {p : Int} (h : 2 ^ W - 1 < p) : isCrc (W : Int) p = false := by unfold isCrc; rw [Int.toNat_natCast, decide_eq_false (show ¬ p ≤ 2 ^ W - 1 by omega)]; simp
theorem isCrc_even {W : Nat} {p : Int} (h1 : 3 ≤ W) (h2 : W ≤ 24) (h3 : 1 ≤ p) (h4 : p ≤ 2 ^ W - 1) : isCrc (W : Int) p = decide (p % 2 = 1) := by
  unfold isCrc
  rw [Int.toNat_natCast, decide_eq_true (show (3 : Int) ≤ W by omega), decide_eq_true (show (W : Int) ≤ 24 by omega), decide_eq_true h3, decide_eq_true h4]
  simp
theorem beq_dec (a b : Int) : (a == b) = decide (a = b) := by by_cases h : a = b <;> simp [h]

end

section
open Go.RowKit

/-- What a valid code and seed mean. -/
theorem crcCode_zero {wd p s : Int} (h : crcCode wd p s = 0) : ∃ (W : Nat) (g r : BitVec W), wd = (W : Int) ∧ 3 ≤ W ∧ W ≤ 24 ∧ p = (g.toNat : Int) ∧ g.getLsbD 0 = true ∧ s = (r.toNat : Int) := by
  unfold crcCode at h
  split at h
  · omega
  · rename_i h1
    split at h
    · omega
    · rename_i h2
      obtain ⟨W, g, rfl, a, b, rfl, c⟩ := isCrc_get (by simpa using h1)
      obtain ⟨r, rfl⟩ := seedIn_get (by simpa using h2)
      exact ⟨W, g, r, rfl, a, b, rfl, c, rfl⟩
theorem crcCode_put {W : Nat} {g : BitVec W} (r : BitVec W) (h1 : 3 ≤ W) (h2 : W ≤ 24) (hg : g.getLsbD 0 = true) : crcCode (W : Int) (g.toNat : Int) (r.toNat : Int) = 0 := by
  unfold crcCode
  rw [isCrc_put h1 h2 hg, seedIn_put r]; rfl
theorem crcCode_cases (wd p s : Int) : crcCode wd p s = 0 ∨ crcCode wd p s = 1 ∨ crcCode wd p s = 2 := by
  unfold crcCode
  split
  · simp
  · split <;> simp
theorem cob_code {wd p s : Int} {xs : List Int} (h : crcCode wd p s ≠ 0) : crcOfBits wd p s xs = (0, crcCode wd p s) := by unfold crcOfBits; rw [if_pos h]
theorem cob_3 {wd p s : Int} {xs : List Int} (h : crcCode wd p s = 0) (hb : isBits xs = false) : crcOfBits wd p s xs = (0, 3) := by unfold crcOfBits; rw [if_neg (by simp [h]), if_pos hb]
theorem cob_0 {wd p s : Int} {xs : List Int} (h : crcCode wd p s = 0) (hb : isBits xs = true) : crcOfBits wd p s xs = (crcRaw wd p s xs, 0) := by unfold crcOfBits; rw [if_neg (by simp [h]), if_neg (by simp [hb])]

theorem struct_cells {w : World} (wd p : Int) (T : Nat) : (w.alloc (.cells #[.int .i64 wd, .int .i64 p] T)).cell? ⟨w.heap.size, 0, none⟩ = some (.int .i64 wd) ∧ (w.alloc (.cells #[.int .i64 wd, .int .i64 p] T)).cell? ⟨w.heap.size, 1, none⟩ = some (.int .i64 p) :=
  ⟨by rw [World.cell?_alloc_at _ _ _ _ rfl]; rfl, by rw [World.cell?_alloc_at _ _ _ _ rfl]; rfl⟩

end

section
open Go.RowKit

/-- The cells of a cyclicCode. -/
def cycCells (W G : Int) (tab : List Int) : Array Value := (.int .i64 W :: .int .i64 G :: tab.map (.int .i64)).toArray
theorem run_build_cyc (W G : Int) (w : World) : (Instr.build 156 #[(0, .int .i64 W), (1, .int .i64 G)]).run Try.prog w = .ok (.agg (cycCells W G (List.replicate 256 0))) w := by kernel_rfl
theorem wpList_build_cyc {ops : Array Oper} {rest : List Oper} {o : Oper} {a : Act} {Q : Exit → Act → World → Prop} (w : World) (hgd : o.guard = none) (x y : Operand) (ho : o.op = .build 156 #[(0, x), (1, y)]) (W G : Int) (cs : Array Value) (hcs : cs = cycCells W G (List.replicate 256 0))
    (hx : a.eval x = .int .i64 W) (hy : a.eval y = .int .i64 G) (h : wpList Try.prog ops Q rest (a.put o.dst (.agg cs)) w) : wpList Try.prog ops Q (o :: rest) a w := by
  refine wpList_plain hgd fun K hK => ?_
  have hrun := run_build_cyc W G w
  rw [← hcs] at hrun
  unfold Oper.wp
  simp [execOp, ho, hx, hy, hrun, Result.andThen]
  exact hK _ _ h

/-- The table while it is filled: its first k entries. -/
def tabTo {W : Nat} (g : BitVec W) (k : Nat) : List Int := (List.range 256).map fun i => if i < k then tabOf g i else 0
section
variable {W : Nat} {g : BitVec W}
theorem tabOf_zero : tabOf g 0 = 0 := by
  unfold tabOf regOf
  have : bl (bitsOf ((0 : Nat) : Int) 8) = List.replicate 8 false := by decide
  rw [this, fbs_zero]; rfl
theorem tabTo_one : tabTo g 1 = List.replicate 256 0 := by
  unfold tabTo
  refine List.eq_replicate_iff.2 ⟨by simp, fun x hx => ?_⟩
  obtain ⟨i, _, rfl⟩ := List.mem_map.1 hx
  split
  · have : i = 0 := by omega
    subst this; exact tabOf_zero
  · rfl
theorem tabTo_len (k : Nat) : (tabTo g k).length = 256 := by simp [tabTo]
theorem tabTo_getD (k i : Nat) (h : i < 256) : (tabTo g k).getD i 0 = if i < k then tabOf g i else 0 := by
  simp [tabTo, List.getD, h]
theorem tabTo_all : tabTo g 256 = (List.range 256).map (tabOf g) := by
  unfold tabTo
  refine List.map_congr_left fun i hi => ?_
  rw [if_pos (List.mem_range.1 hi)]
theorem tabTo_succ (k : Nat) : (tabTo g k).set k (tabOf g k) = tabTo g (k + 1) := by
  apply List.ext_getElem (by simp [tabTo])
  intro i h1 h2
  have hi : i < 256 := by simpa [tabTo] using h2
  rw [List.getElem_set]
  simp only [tabTo, List.getElem_map, List.getElem_range]
  by_cases h : k = i
  · subst h; simp
  · rw [if_neg h]
    by_cases h' : i < k
    · rw [if_pos h', if_pos (by omega)]
    · rw [if_neg h', if_neg (by omega)]
theorem cycCells_at (A B : Int) (tab : List Int) (i : Nat) (h : i < tab.length) : (cycCells A B tab)[2 + i]? = some (.int .i64 (tab.getD i 0)) := by
  unfold cycCells
  rw [List.getElem?_toArray, show 2 + i = i + 1 + 1 from by omega, List.getElem?_cons_succ, List.getElem?_cons_succ, List.getElem?_map, List.getElem?_eq_getElem h]
  simp [List.getD, List.getElem?_eq_getElem h]
theorem cycCells_set (A B : Int) (tab : List Int) (i : Nat) (x : Int) : (cycCells A B tab).setIfInBounds (2 + i) (.int .i64 x) = cycCells A B (tab.set i x) := by
  unfold cycCells
  rw [List.setIfInBounds_toArray, show 2 + i = i + 1 + 1 from by omega, List.set_cons_succ, List.set_cons_succ, map_set]
end
/-- Entry number k out of entry number k / 2. -/
theorem bits_half (k : Nat) : bl (bitsOf (k : Int) 8) = (bl (bitsOf ((k / 2 : Nat) : Int) 8)).drop 1 ++ [decide (((k : Int) % 2) = 1)] := by
  have e : (k : Int) = 2 * ((k / 2 : Nat) : Int) + (k : Int) % 2 := by omega
  have e2 : ∀ m b : Int, 0 ≤ b → b ≤ 1 → bitsOf (2 * m + b) 8 = topBits m 7 7 ++ [b] := by
    intro m b h0 h1
    unfold bitsOf
    rw [topBits_succ]
    have h1 : topBits (2 * m + b) 8 7 = topBits m 7 7 := by
      unfold topBits
      refine List.map_congr_left fun i hi => ?_
      have hi := List.mem_range.1 hi
      unfold bitAt
      rw [show 8 - 1 - i = (7 - 1 - i) + 1 from by omega, Int.pow_succ, Int.mul_comm (2 ^ (7 - 1 - i)) 2, ← Int.ediv_ediv_of_nonneg (by omega), show (2 * m + b) / 2 = m from by omega]
    rw [h1]
    congr 1
    unfold bitAt
    simp; omega
  have e3 : ∀ m : Int, (bitsOf m 8).drop 1 = topBits m 7 7 := by
    intro m
    unfold bitsOf topBits
    rw [show (List.range 8) = 0 :: (List.range 7).map (· + 1) from by decide, List.map_cons, List.drop_succ_cons, List.drop_zero, List.map_map]
    refine List.map_congr_left fun i hi => ?_
    have hi := List.mem_range.1 hi
    simp only [Function.comp]
    unfold bitAt
    rw [show 8 - 1 - (i + 1) = 7 - 1 - i from by omega]
  have e4 : bitsOf (k : Int) 8 = topBits ((k / 2 : Nat) : Int) 7 7 ++ [(k : Int) % 2] := by
    conv => lhs; rw [e]
    exact e2 _ _ (by omega) (by omega)
  rw [e4, bl_append, show bl (bitsOf ((k / 2 : Nat) : Int) 8) = (bitsOf ((k / 2 : Nat) : Int) 8).map (fun x => decide (x = 1)) from rfl, ← List.map_drop, e3]
  rfl
theorem bits_top (k : Nat) (h : k < 128) : bl (bitsOf (k : Int) 8) = false :: (bl (bitsOf (k : Int) 8)).drop 1 := by
  have hl : (bl (bitsOf (k : Int) 8)).length = 8 := by rw [bl_len, bitsOf_len]
  rcases hb : bl (bitsOf (k : Int) 8) with _ | ⟨b, bs⟩
  · rw [hb] at hl; simp at hl
  · have : b = decide (bitAt (k : Int) 8 0 = 1) := by
      have h2 := congrArg List.head? hb
      simp only [List.head?_cons] at h2
      unfold bl bitsOf topBits at h2
      rw [show (List.range 8) = 0 :: (List.range 7).map (· + 1) from by decide] at h2
      simp only [List.map_cons, List.head?_cons, Option.some.injEq] at h2
      exact h2.symm
    have hz : bitAt (k : Int) 8 0 = 0 := by unfold bitAt; omega
    rw [hz] at this
    subst this; rfl
theorem tabOf_half {W : Nat} (g : BitVec W) (k : Nat) (h : k < 256) : fbs g 0#W (bl (bitsOf (k : Int) 8)) = fb g (fbs g 0#W (bl (bitsOf ((k / 2 : Nat) : Int) 8))) (decide ((k : Int) % 2 = 1)) := by
  rw [bits_half k, fbs_snoc]
  congr 1
  conv => rhs; rw [bits_top (k / 2) (by omega)]
  show _ = fbs g (fb g 0#W false) _
  rw [fb_zero]
end

section
open Go.RowKit

/-- A block that holds a cyclicCode whose table is filled to k. -/
def CycTo {W : Nat} (g : BitVec W) (w : World) (p k : Nat) : Prop := w.heap[p]? = some (.cells (cycCells W g.toNat (tabTo g k)) 156 (0, 0))
section
variable {W : Nat} {g : BitVec W} {w : World} {p k : Nat}
theorem CycTo.code (h : CycTo g w p k) : CodeAt w p W g.toNat := ⟨cell_of_row w p 0 _ _ (0, 0) h, cell_of_row w p 1 _ _ (0, 0) h⟩
theorem CycTo.cell (h : CycTo g w p k) (i : Nat) (hi : i < 256) : w.cell? ⟨p, 2 + i, none⟩ = some (.int .i64 (if i < k then tabOf g i else 0)) := by
  rw [cell_of_row w p (2 + i) _ _ (0, 0) h, cycCells_at _ _ _ _ (by rw [tabTo_len]; exact hi), tabTo_getD _ _ hi]
theorem CycTo.frozen (h : CycTo g w p k) (i : Nat) : w.frozen? ⟨p, i, none⟩ = false := frozen_of_row w p i _ _ h
theorem CycTo.store (h : CycTo g w p k) (x : Int) (hx : x = tabOf g k) : CycTo g (w.setCell ⟨p, 2 + k, none⟩ (.int .i64 x)) p (k + 1) := by
  subst hx
  have := heap_setCell_same w p (2 + k) _ _ (.int .i64 (tabOf g k)) h
  rw [cycCells_set, tabTo_succ] at this
  exact this
theorem CycTo.lt (h : CycTo g w p k) : p < w.heap.size := (Array.getElem?_eq_some_iff.1 h).1
end
theorem still_w {P : Program} {f : FuncId} {args : Array Value} {w : World} {v : Value}
    (h : Calls P f args w fun e w' => e = .returned v ∧ w = w') : Calls P f args w fun e w'' => e = .returned v ∧ w'' = w :=
  h.mono fun _ _ ⟨he, hm⟩ => ⟨he, hm.symm⟩
/-- What newCyclicCode leaves. -/
def CycMade {W : Nat} (g : BitVec W) (w : World) (e : Ending) (w' : World) : Prop :=
  ∃ p, e = .returned (.pointer (some ⟨p, 0, none⟩)) ∧ CycTo g w' p 256 ∧ w.heap.size ≤ p ∧ Below w.heap.size w w'

set_option maxRecDepth 100000 in
theorem newCode_any (W : Nat) (g : BitVec W) (w : World) (h1 : 3 ≤ W) (h2 : W ≤ 24) :
    Calls Try.prog 119 #[.agg #[.int .i64 W, .int .i64 g.toNat]] w (CycMade g w) := by
  obtain ⟨cs, hcs⟩ : ∃ cs, cs = cycCells W g.toNat (List.replicate 256 0) := ⟨_, rfl⟩
  have hcs1 : cs = cycCells W g.toNat (tabTo g 1) := by rw [tabTo_one]; exact hcs
  have HCS := Lib.hid hcs; clear hcs
  have HCS1 := Lib.hid hcs1; clear hcs1
  obtain ⟨G, hG⟩ : ∃ G, G = (g.toNat : Int) := ⟨_, rfl⟩
  have hb0 : Below w.heap.size w (w.alloc (.cells #[.int .i64 W, .int .i64 G] 138)) := (Below.refl _ _).alloc (Nat.le_refl _) _
  have HB := Lib.hid hb0; clear hb0
  rw [← hG]
  have HG := Lib.hid hG; clear hG
  go_enter Try.func119, Try.ntmps119
  go_wp2_with (with_reducible refine wpList_build_cyc _ rfl (.tmp 6) (.tmp 8) rfl W G cs (by rw [HG.out]; exact HCS.out) rfl rfl ?_)
  go_loopw [4] (fun i wr => ∃ k : Nat, 1 ≤ k ∧ k ≤ 256 ∧ i = .int .i64 k ∧ CycTo g wr (w.heap.size + 1) k ∧ Below w.heap.size w wr) (fun i _ => 256 - (intOf i).toNat)
  case atStart =>
    refine ⟨1, Nat.le_refl _, by omega, rfl, ?_, HB.out.alloc (by simp) _⟩
    unfold CycTo
    rw [← HCS1.out]
    have := heap_alloc_new (w.alloc (.cells #[.int .i64 W, .int .i64 G] 138)) (.cells cs 156)
    simpa using this
  case round =>
    obtain ⟨k, hk0, hk, rfl, hcyc, hbel⟩ := hrel
    by_cases hlt : k < 256
    · obtain ⟨h, hh⟩ : ∃ h : Nat, h = k / 2 := ⟨_, rfl⟩
      have hkh : (k : Int) / 2 = (h : Int) := by omega
      have hh2 : h < 256 := by omega
      have hh3 : (h : Int) < 256 := by omega
      have hk3 : (k : Int) < 256 := by omega
      have hld := hcyc.cell h hh2
      rw [if_pos (by omega)] at hld
      have hcd := hcyc.code
      have hst := hcyc.cell k hlt
      have hfz := hcyc.frozen (2 + k)
      have hnew := hcyc.store (tabOf g k) rfl
      have hbn : Below w.heap.size w (wr.setCell ⟨w.heap.size + 1, 2 + k, none⟩ (.int .i64 (tabOf g k))) := hbel.setCell (by simp) _
      have hlt2 := hcyc.lt
      have hhalf : ((fb g (fbs g 0#W (bl (bitsOf (h : Int) 8))) (decide ((k : Int) % 2 = 1))).toNat : Int) = tabOf g k := by
        unfold tabOf regOf; rw [tabOf_half g k hlt, hh]
      have hand := and_one (k : Int)
      obtain ⟨y, hy⟩ : ∃ y : BitVec W, y = fbs g 0#W (bl (bitsOf (h : Int) 8)) := ⟨_, rfl⟩
      have hx : tabOf g h = (y.toNat : Int) := by rw [hy]; rfl
      rw [← hy] at hhalf
      rw [hx] at hld
      have HC := Lib.hid hcd; clear hcd
      obtain ⟨z, hz⟩ : ∃ z, z = (if k < k then tabOf g k else 0) := ⟨_, rfl⟩
      rw [← hz] at hst
      obtain ⟨u, hu⟩ : ∃ u, u = tabOf g k := ⟨_, rfl⟩
      rw [← hu] at hnew hbn hhalf
      have HN := Lib.hid hnew; clear hnew hz hu
      have HBN := Lib.hid hbn; clear hbn hbel hcyc
      have HH := Lib.hid hhalf; clear hhalf hy hx hh
      have hm0 : 0 ≤ (k : Int) % 2 := by omega
      have hm1 : (k : Int) % 2 ≤ 1 := by omega
      go_wp2
      go_still_tail 16, (by kernel_rfl)
      still_call (still_w (afterBit_any (w.heap.size + 1) W g y ((k : Int) % 2) _ h1 h2 HC.out ⟨hm0, hm1⟩))
      rw [HH.out]
      repeat still_step
      refine wpStill_nil ?_
      change wpList _ _ _ _ _ wr.drew
      go_wp2
      go_roundw
      case rel => exact ⟨k + 1, by omega, by omega, by go_num, HN.out, HBN.out.drew⟩
      case measure => simp [intOf]; omega
    · have hkn : k = 256 := by omega
      subst hkn
      have HC := Lib.hid hcyc; clear hcyc
      go_wp2
      go_ret
      exact ⟨_, rfl, HC.out, by omega, hbel⟩
end

section
open Go.RowKit

def crcErr (wd p s : Int) (b : Bool) : Int := if crcCode wd p s ≠ 0 then crcCode wd p s else if b = false then 3 else 0
theorem crcErr_code {wd p s : Int} {b : Bool} (h : crcCode wd p s ≠ 0) : crcErr wd p s b = crcCode wd p s := by unfold crcErr; rw [if_pos h]
theorem crcErr_3 {wd p s : Int} (h : crcCode wd p s = 0) : crcErr wd p s false = 3 := by unfold crcErr; rw [if_neg (by simp [h]), if_pos rfl]
theorem crcErr_0 {wd p s : Int} (h : crcCode wd p s = 0) : crcErr wd p s true = 0 := by unfold crcErr; rw [if_neg (by simp [h]), if_neg (by simp)]
theorem cob_err {wd p s : Int} {xs : List Int} (h : crcErr wd p s (isBits xs) ≠ 0) : crcOfBits wd p s xs = (0, crcErr wd p s (isBits xs)) := by
  by_cases h1 : crcCode wd p s = 0
  · rcases hb : isBits xs with _ | _
    · rw [cob_3 h1 hb, crcErr_3 h1]
    · rw [hb, crcErr_0 h1] at h; exact absurd rfl h
  · rw [cob_code h1, crcErr_code h1]
theorem cob_ok {wd p s : Int} {xs : List Int} (h : crcErr wd p s (isBits xs) = 0) : crcCode wd p s = 0 ∧ isBits xs = true := by
  by_cases h1 : crcCode wd p s = 0
  · rcases hb : isBits xs with _ | _
    · rw [hb, crcErr_3 h1] at h; omega
    · exact ⟨h1, rfl⟩
  · rw [crcErr_code h1] at h; exact absurd h h1

end
end Go.Proofs.Ytbdfnkhmnglpbaa
