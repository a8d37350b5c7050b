/-
  Contracts of the program's, the model's and the laws' functions, and plain mathematics, on which a proof of this claim stands (part Z).
-/
import Derived.Deep.QuietTactic
import Derived.BigQuiet
import Derived.StillTailTactics
import Derived.Deep.RegionHeld3
import Derived.Deep.AppendLies
import Derived.Deep.RegionWith
import Derived.Handy
import Derived.Lib.AppendZeros
import Derived.ArgAppend
import Derived.Test.YtljdkckoelgkbaaGreatPxA
namespace Go.Proofs.YtljdkckoelgkbaaGreat
section
section
def stdG : BitVec 24 := 6122955#24
section
variable {W : Nat} {g : BitVec W}
end
end
section
def regS (id : Int) : BitVec 24 := BitVec.ofNat 24 id.toNat
def three (x : Int) : List Int := [x / 65536, x / 256 % 256, x % 256]
theorem three_len (x : Int) : (three x).length = 3 := rfl
theorem three_bytes {x : Int} (h : 0 ≤ x ∧ x ≤ 16777215) : ∀ y ∈ three x, 0 ≤ y ∧ y ≤ 255 := by
  intro y hy
  simp only [three, List.mem_cons, List.mem_nil_iff, or_false] at hy
  rcases hy with rfl | rfl | rfl <;> omega
end
section
theorem numFrom_eq (xs : List Int) (n : Int) : numFrom n xs = n * 2 ^ xs.length + numOf xs := by
  unfold numOf
  induction xs generalizing n with
  | nil => simp [numFrom]
  | cons x xs ih =>
    have e : ∀ a : Int, numFrom a (x :: xs) = numFrom (2 * a + x) xs := fun _ => rfl
    rw [e, e, ih (2 * n + x), ih (2 * 0 + x), List.length_cons, Int.pow_succ]
    generalize (2 : Int) ^ xs.length = P
    rw [show (2 * 0 + x) = x from by omega, Int.add_mul, ← Int.add_assoc]
    congr 2
    rw [Int.mul_assoc, Int.mul_comm P 2, ← Int.mul_assoc, ← Int.mul_assoc, Int.mul_comm 2 n]
theorem numOf_append (xs ys : List Int) : numOf (xs ++ ys) = numOf xs * 2 ^ ys.length + numOf ys := by
  have e : numOf (xs ++ ys) = numFrom (numOf xs) ys := by unfold numOf numFrom; rw [List.foldl_append]
  rw [e, numFrom_eq]
theorem three_bits {x : Int} (h : 0 ≤ x ∧ x ≤ 16777215) : bitsOf8 (three x) = bitsOf x 24 := by
  have hb : ∀ y ∈ bitsOf8 (three x), 0 ≤ y ∧ y ≤ 1 := by
    intro y hy
    obtain ⟨z, -, hz⟩ := List.mem_flatMap.1 hy
    exact bitsOf_bits _ _ y hz
  have hl : (bitsOf8 (three x)).length = 24 := by show (List.flatMap (bitsOf · 8) (three x)).length = 24; rw [flat_len, three_len]
  have hn : numOf (bitsOf8 (three x)) = x := by
    have e : bitsOf8 (three x) = bitsOf (x / 65536) 8 ++ (bitsOf (x / 256 % 256) 8 ++ bitsOf (x % 256) 8) := by simp [bitsOf8, three]
    rw [e, numOf_append, numOf_append, List.length_append, bitsOf_len, bitsOf_len, numOf_bitsOf _ 8 (by omega) (by omega), numOf_bitsOf _ 8 (by omega) (by omega), numOf_bitsOf _ 8 (by omega) (by omega)]
    omega
  have := bitsOf_numOf 24 _ hl hb
  rw [hn] at this
  exact this.symm
theorem bits8_in (xs : List Int) : ∀ y ∈ bitsOf8 xs, 0 ≤ y ∧ y ≤ 1 := by
  intro y hy
  obtain ⟨z, -, hz⟩ := List.mem_flatMap.1 hy
  exact bitsOf_bits _ _ y hz
end
section
theorem reg_id {id : Int} (h : 0 ≤ id ∧ id ≤ 16777215) : ((regS id).toNat : Int) = id := by
  unfold regS
  rw [BitVec.toNat_ofNat]
  omega
theorem std_nat : (stdG.toNat : Int) = 6122955 := by decide
end
end

section
section
open Go.RowKit
theorem quiet_w {P : Program} {f : FuncId} {args : Array Value} {w : World} {n : Nat} {v : Value}
    (h : Calls P f args (w.drewN n) fun e w' => e = .returned v ∧ w.drewN n = w') : Calls P f args (w.drewN n) fun e w'' => e = .returned v ∧ ∃ m, w'' = w.drewN m :=
  h.mono fun _ _ ⟨he, hm⟩ => ⟨he, n, hm.symm⟩
theorem great_any (W : Nat) (w : World) (h : W ≤ 24) : Calls Tryz.prog 230 #[.int .i64 W] w fun e w' => e = .returned (.int .i64 (2 ^ W - 1)) ∧ w = w' := by
  have hp := pow40 W (by omega)
  go_enter Tryz.func230, Tryz.ntmps230
  go_wp2
  go_ret
  exact ⟨rfl, rfl⟩
def CodeAt (w : World) (p W : Nat) (G : Int) : Prop := w.cell? ⟨p, 0, none⟩ = some (.int .i64 W) ∧ w.cell? ⟨p, 1, none⟩ = some (.int .i64 G)
theorem afterBit_any (p W : Nat) (g r : BitVec W) (B : Int) (w : World) (h1 : 3 ≤ W) (h2 : W ≤ 24) (hc : CodeAt w p W g.toNat) (hB : 0 ≤ B ∧ B ≤ 1) :
    Calls Tryz.prog 231 #[.pointer (some ⟨p, 0, none⟩), .int .i64 r.toNat, .int .i64 B] w fun e w' => e = .returned (.int .i64 (fb g r (decide (B = 1))).toNat) ∧ w = w' := by
  obtain ⟨hc0, hc1⟩ := hc
  have hp := pow40 W (by omega)
  have hr := reg_lt h2 r
  have ht := step_ne (r := r) (W := W) (by omega) B hB
  have hd := reg_double (r := r) h2
  rcases hm : (r.msb ^^ decide (B = 1)) with _ | _
  · rw [hm] at ht
    rw [fb_f hm]
    obtain ⟨R, hR⟩ : ∃ R, R = (r.toNat : Int) := ⟨_, rfl⟩
    obtain ⟨D, hD⟩ : ∃ D, D = ((r <<< 1).toNat : Int) := ⟨_, rfl⟩
    rw [← hR] at ht hd hr ⊢
    rw [← hD] at hd ⊢
    obtain ⟨hr0, hr1⟩ := hr
    have HD := Lib.hid hd; clear hd hR hD hm
    go_enter Tryz.func231, Tryz.ntmps231
    go_wp2_with fail
    refine (great_any _ _ h2).mono ?_
    rintro e w' ⟨rfl, rfl⟩
    go_wp2
    go_ret
    exact ⟨ret_int HD.out, rfl⟩
  · rw [hm] at ht
    rw [fb_t hm]
    have hx := reg_xor h2 (r <<< 1) g
    rw [← hd] at hx
    obtain ⟨R, hR⟩ : ∃ R, R = (r.toNat : Int) := ⟨_, rfl⟩
    obtain ⟨D, hD⟩ : ∃ D, D = ((r <<< 1 ^^^ g).toNat : Int) := ⟨_, rfl⟩
    obtain ⟨G, hG⟩ : ∃ G, G = (g.toNat : Int) := ⟨_, rfl⟩
    rw [← hR] at ht hx hr ⊢
    rw [← hD] at hx ⊢
    rw [← hG] at hx hc1
    obtain ⟨hr0, hr1⟩ := hr
    have HD := Lib.hid hx; clear hd hx hR hD hG hm
    go_enter Tryz.func231, Tryz.ntmps231
    go_wp2_with fail
    refine (great_any _ _ h2).mono ?_
    rintro e w' ⟨rfl, rfl⟩
    go_wp2
    go_ret
    exact ⟨ret_int HD.out, rfl⟩
end
section
open Go.RowKit
theorem feed_any (W : Nat) (g r : BitVec W) (ao : Option Addr) (n cap : Nat) (xs : List Int) (w : World) (h1 : 3 ≤ W) (h2 : W ≤ 24) (hr : Rd w ao n xs) (hn : n ≤ 1048576) (hbits : ∀ x ∈ xs, 0 ≤ x ∧ x ≤ 1) :
    Calls Tryz.prog 184 #[.agg #[.int .i64 W, .int .i64 g.toNat], .int .i64 r.toNat, .slice ao n cap] w fun e w' => e = .returned (.int .i64 (regOf g r xs)) ∧ Below w.heap.size w w' := by
  obtain ⟨hlen, hat⟩ := hr
  have HL := Lib.hid hlen; clear hlen
  have HA := Lib.hid hat; clear hat
  have HZ := Lib.hid hbits; clear hbits
  have hp := pow40 W (by omega)
  have hp1 := pow40 (W - 1) (by omega)
  obtain ⟨G, hG⟩ : ∃ G, G = (g.toNat : Int) := ⟨_, rfl⟩
  rw [← hG]
  have HG := Lib.hid hG; clear hG
  have hb0 : Below w.heap.size w (w.alloc (.cells #[.int .i64 W, .int .i64 G] 190)) := (Below.refl _ _).alloc (Nat.le_refl _) _
  go_enter Tryz.func184, Tryz.ntmps184
  go_wp2
  go_loopw [1, 8] (fun v i wr => ∃ (k : Nat) (y : BitVec W) (q : Nat), k ≤ n ∧ i = .int .i64 k ∧ v = .int .i64 y.toNat ∧ Hid (fbs g r (bl (xs.take k)) = y) ∧ wr = (w.alloc (.cells #[.int .i64 W, .int .i64 G] 190)).drewN q) (fun _ i _ => n - (intOf i).toNat)
  case atStart => exact ⟨0, r, 0, Nat.zero_le _, rfl, rfl, rfl, rfl⟩
  case round =>
    obtain ⟨k, y, q, hk, rfl, rfl, HY, rfl⟩ := hrel
    by_cases hlt : k < n
    · obtain ⟨b, off, rfl, hall⟩ := HA.out (by omega)
      have hck := hall k hlt
      have hblt : b < w.heap.size := World.block_lt_of_cell? w _ hck
      clear hall
      have hkx : k < xs.length := by rw [HL.out]; exact hlt
      have hbx := HZ.out (xs.getD k 0) (getD_mem' hkx)
      have hfin : fbs g r (bl (xs.take (k + 1))) = fb g y (decide (xs.getD k 0 = 1)) := by rw [fbs_take xs k hkx, HY.out]
      obtain ⟨x, hx⟩ : ∃ x, x = xs.getD k 0 := ⟨_, rfl⟩
      rw [← hx] at hck hbx hfin
      clear hx hkx HZ HY HA HL
      have hck' := (hb0.cell (p := ⟨b, off + k, none⟩) hblt).trans hck
      have ht := step_xor (r := y) (W := W) (by omega) x hbx
      have hrm := reg_rem (r := y) (W := W) (by omega)
      have hy := reg_lt h2 y
      rcases hm : (y.msb ^^ decide (x = 1)) with _ | _
      · rw [hm] at ht
        rw [fb_f hm] at hfin
        obtain ⟨R, hR⟩ : ∃ R, R = (y.toNat : Int) := ⟨_, rfl⟩
        obtain ⟨D, hD⟩ : ∃ D, D = ((y <<< 1).toNat : Int) := ⟨_, rfl⟩
        rw [← hR] at ht hrm hy ⊢
        rw [← hD] at hrm
        obtain ⟨hr0, hr1⟩ := hy
        have HD := Lib.hid hD; clear hD
        have HF := Lib.hid hfin; clear hfin hm hR
        have HRM := Lib.hid hrm; clear hrm
        go_wp2
        go_quiet (fail)
        go_wp2
        go_roundw
        case rel => exact ⟨k + 1, y <<< 1, _, by omega, by go_num, by rw [HRM.out, HD.out], HF.out, rfl⟩
        case measure => simp [intOf]; omega
      · rw [hm] at ht
        rw [fb_t hm] at hfin
        have hx := reg_xor h2 (y <<< 1) g
        rw [← hrm, ← HG.out] at hx
        obtain ⟨R, hR⟩ : ∃ R, R = (y.toNat : Int) := ⟨_, rfl⟩
        obtain ⟨D, hD⟩ : ∃ D, D = ((y <<< 1 ^^^ g).toNat : Int) := ⟨_, rfl⟩
        rw [← hR] at ht hx hy ⊢
        rw [← hD] at hx
        obtain ⟨hr0, hr1⟩ := hy
        have HD := Lib.hid hD; clear hD
        have HF := Lib.hid hfin; clear hfin hm hR hrm
        have HX := Lib.hid hx; clear hx
        go_wp2
        go_quiet (fail)
        go_wp2
        go_roundw
        case rel => exact ⟨k + 1, y <<< 1 ^^^ g, _, by omega, by go_num, by rw [HX.out, HD.out], HF.out, rfl⟩
        case measure => simp [intOf]; omega
    · have hkn : k = n := by omega
      subst hkn
      have hfin : (y.toNat : Int) = regOf g r xs := by unfold regOf; rw [← HY.out, List.take_of_length_le (by rw [HL.out]; exact Nat.le_refl _)]
      have HF := Lib.hid hfin; clear hfin
      have HB := Lib.hid (below_drewN' hb0 q); clear hb0
      go_wp2
      go_ret
      exact ⟨ret_int HF.out, HB.out⟩
end
section
open Go.RowKit
theorem isCrc_lowW {wd p : Int} (h : wd < 3) : isCrc wd p = false := by unfold isCrc; rw [decide_eq_false (show ¬ 3 ≤ wd by omega)]; rfl
theorem isCrc_highW {wd p : Int} (h : 24 < wd) : isCrc wd p = false := by unfold isCrc; rw [decide_eq_false (show ¬ wd ≤ 24 by omega)]; simp
theorem isCrc_lowP {wd p : Int} (h : p < 1) : isCrc wd p = false := by unfold isCrc; rw [decide_eq_false (show ¬ 1 ≤ p by omega)]; simp
theorem isCrc_highP {W : Nat} {p : Int} (h : 2 ^ W - 1 < p) : isCrc (W : Int) p = false := by unfold isCrc; rw [Int.toNat_natCast, decide_eq_false (show ¬ p ≤ 2 ^ W - 1 by omega)]; simp
theorem isCrc_even {W : Nat} {p : Int} (h1 : 3 ≤ W) (h2 : W ≤ 24) (h3 : 1 ≤ p) (h4 : p ≤ 2 ^ W - 1) : isCrc (W : Int) p = decide (p % 2 = 1) := by
  unfold isCrc
  rw [Int.toNat_natCast, decide_eq_true (show (3 : Int) ≤ W by omega), decide_eq_true (show (W : Int) ≤ 24 by omega), decide_eq_true h3, decide_eq_true h4]
  simp
theorem beq_dec (a b : Int) : (a == b) = decide (a = b) := by by_cases h : a = b <;> simp [h]
theorem isCrc_any (wd p : Int) (w : World) : Calls Tryz.prog 229 #[.agg #[.int .i64 wd, .int .i64 p]] w fun e w' => e = .returned (.bool (isCrc wd p)) ∧ Below w.heap.size w w' := by
  have hb0 : Below w.heap.size w (w.alloc (.cells #[.int .i64 wd, .int .i64 p] 190)) := (Below.refl _ _).alloc (Nat.le_refl _) _
  have HB := Lib.hid hb0; clear hb0
  by_cases h0 : wd < 3
  · rw [isCrc_lowW h0]
    go_enter Tryz.func229, Tryz.ntmps229
    go_wp2
    go_ret
    exact ⟨rfl, HB.out⟩
  · by_cases h1 : 24 < wd
    · rw [isCrc_highW h1]
      go_enter Tryz.func229, Tryz.ntmps229
      go_wp2
      go_ret
      exact ⟨rfl, HB.out⟩
    · obtain ⟨W, rfl⟩ := Int.eq_ofNat_of_zero_le (show 0 ≤ wd by omega)
      have h2 : 3 ≤ W := by omega
      have h3 : W ≤ 24 := by omega
      have hp := pow40 W (by omega)
      by_cases h4 : p < 1
      · rw [isCrc_lowP h4]
        have hd : decide ((1 : Int) ≤ p) = false := decide_eq_false (by omega)
        go_enter Tryz.func229, Tryz.ntmps229
        go_wp2
        go_quiet (fail)
        go_wp2
        go_ret
        exact ⟨rfl, below_drewN' HB.out _⟩
      · by_cases h5 : 2 ^ W - 1 < p
        · rw [isCrc_highP h5]
          have hd : decide (p ≤ 2 ^ W - 1) = false := decide_eq_false (by omega)
          go_enter Tryz.func229, Tryz.ntmps229
          go_wp2
          go_quiet ((go_at_call 230; exact quiet_w (great_any _ _ h3)))
          go_wp2
          go_ret
          exact ⟨rfl, below_drewN' HB.out _⟩
        · rw [isCrc_even h2 h3 (by omega) (by omega)]
          have hand := (beq_dec (bits .and .i64 p 1) 1).trans (by rw [and_one])
          have HA := Lib.hid hand; clear hand
          go_enter Tryz.func229, Tryz.ntmps229
          go_wp2
          go_quiet ((go_at_call 230; exact quiet_w (great_any _ _ h3)))
          go_wp2
          go_ret
          exact ⟨ret_bool HA.out, below_drewN' HB.out _⟩
theorem crcError_any (wd p s : Int) (b : Bool) (w : World) : Calls Tryz.prog 223 #[.agg #[.int .i64 wd, .int .i64 p], .int .i64 s, .bool b] w fun e w' =>
    e = .returned (.int .i64 (if crcCode wd p s ≠ 0 then crcCode wd p s else if b = false then 3 else 0)) ∧ Below w.heap.size w w' := by
  have hb0 : Below w.heap.size w (w.alloc (.cells #[.int .i64 wd, .int .i64 p] 190)) := (Below.refl _ _).alloc (Nat.le_refl _) _
  rcases hI : isCrc wd p with _ | _
  · have hf : (if crcCode wd p s ≠ 0 then crcCode wd p s else if b = false then 3 else 0) = 1 := by simp [crcCode, hI]
    rw [hf]; clear hf
    have HI := Lib.hid hI; clear hI
    have HB := Lib.hid hb0; clear hb0
    go_enter Tryz.func223, Tryz.ntmps223
    go_wp2_with fail
    refine (isCrc_any _ _ _).mono ?_
    rintro e w1 ⟨rfl, b1⟩
    rw [HI.out]
    go_wp2
    go_ret
    exact ⟨rfl, below_two HB.out b1⟩
  · obtain ⟨W, g, rfl, h1, h2, rfl, -⟩ := isCrc_get hI
    have hp := pow40 W (by omega)
    obtain ⟨G, hG⟩ : ∃ G, G = (g.toNat : Int) := ⟨_, rfl⟩
    rw [← hG] at hI hb0 ⊢
    clear hG
    have hcell : (w.alloc (.cells #[.int .i64 W, .int .i64 G] 190)).cell? ⟨w.heap.size, 0, none⟩ = some (.int .i64 W) := by rw [World.cell?_alloc_at _ _ _ _ rfl]; rfl
    by_cases h0 : s < 0
    · have hf : (if crcCode (W : Int) G s ≠ 0 then crcCode (W : Int) G s else if b = false then 3 else 0) = 2 := by
        have : seedIn (W : Int) s = false := by unfold seedIn; rw [decide_eq_false (by omega)]; rfl
        simp [crcCode, hI, this]
      rw [hf]; clear hf
      have HI := Lib.hid hI; clear hI
      have HB := Lib.hid hb0; clear hb0 hcell
      go_enter Tryz.func223, Tryz.ntmps223
      go_wp2_with fail
      refine (isCrc_any _ _ _).mono ?_
      rintro e w1 ⟨rfl, b1⟩
      rw [HI.out]
      go_wp2
      go_ret
      exact ⟨rfl, below_two HB.out b1⟩
    · by_cases h3 : 2 ^ W - 1 < s
      · have hf : (if crcCode (W : Int) G s ≠ 0 then crcCode (W : Int) G s else if b = false then 3 else 0) = 2 := by
          have : seedIn (W : Int) s = false := by unfold seedIn; rw [Int.toNat_natCast, decide_eq_false (show ¬ s ≤ 2 ^ W - 1 by omega)]; simp
          simp [crcCode, hI, this]
        rw [hf]; clear hf
        have HI := Lib.hid hI; clear hI
        have HB := Lib.hid hb0; clear hb0
        have HC := Lib.hid hcell; clear hcell
        go_enter Tryz.func223, Tryz.ntmps223
        go_wp2_with fail
        refine (isCrc_any _ _ _).mono ?_
        rintro e w1 ⟨rfl, b1⟩
        rw [HI.out]
        have hc1 := (b1.cell (p := ⟨w.heap.size, 0, none⟩) (by simp)).trans HC.out
        go_wp2_with fail
        refine (great_any _ _ h2).mono ?_
        rintro e w' ⟨rfl, rfl⟩
        go_wp2
        go_ret
        exact ⟨rfl, below_two HB.out b1⟩
      · have hf : (if crcCode (W : Int) G s ≠ 0 then crcCode (W : Int) G s else if b = false then 3 else 0) = (if b = false then 3 else 0) := by
          have : seedIn (W : Int) s = true := by unfold seedIn; rw [Int.toNat_natCast, decide_eq_true (show 0 ≤ s by omega), decide_eq_true (show s ≤ 2 ^ W - 1 by omega)]; rfl
          simp [crcCode, hI, this]
        rw [hf]; clear hf
        have HI := Lib.hid hI; clear hI
        have HB := Lib.hid hb0; clear hb0
        have HC := Lib.hid hcell; clear hcell
        cases b
        all_goals
          go_enter Tryz.func223, Tryz.ntmps223
          go_wp2_with fail
          refine (isCrc_any _ _ _).mono ?_
          rintro e w1 ⟨rfl, b1⟩
          rw [HI.out]
          have hc1 := (b1.cell (p := ⟨w.heap.size, 0, none⟩) (by simp)).trans HC.out
          go_wp2_with fail
          refine (great_any _ _ h2).mono ?_
          rintro e w' ⟨rfl, rfl⟩
          go_wp2
          go_ret
          exact ⟨rfl, below_two HB.out b1⟩
end
section
open Go.RowKit
theorem crcCode_zero {wd p s : Int} (h : crcCode wd p s = 0) : ∃ (W : Nat) (g r : BitVec W), wd = (W : Int) ∧ 3 ≤ W ∧ W ≤ 24 ∧ p = (g.toNat : Int) ∧ g.getLsbD 0 = true ∧ s = (r.toNat : Int) := by
  unfold crcCode at h
  split at h
  · omega
  · rename_i h1
    split at h
    · omega
    · rename_i h2
      obtain ⟨W, g, rfl, a, b, rfl, c⟩ := isCrc_get (by simpa using h1)
      obtain ⟨r, rfl⟩ := seedIn_get (by simpa using h2)
      exact ⟨W, g, r, rfl, a, b, rfl, c, rfl⟩
theorem struct_cells {w : World} (wd p : Int) (T : Nat) : (w.alloc (.cells #[.int .i64 wd, .int .i64 p] T)).cell? ⟨w.heap.size, 0, none⟩ = some (.int .i64 wd) ∧ (w.alloc (.cells #[.int .i64 wd, .int .i64 p] T)).cell? ⟨w.heap.size, 1, none⟩ = some (.int .i64 p) :=
  ⟨by rw [World.cell?_alloc_at _ _ _ _ rfl]; rfl, by rw [World.cell?_alloc_at _ _ _ _ rfl]; rfl⟩
end
section
open Go.RowKit
def cycCells (W G : Int) (tab : List Int) : Array Value := (.int .i64 W :: .int .i64 G :: tab.map (.int .i64)).toArray
theorem run_build_cyc (W G : Int) (w : World) : (Instr.build 226 #[(0, .int .i64 W), (1, .int .i64 G)]).run Tryz.prog w = .ok (.agg (cycCells W G (List.replicate 256 0))) w := by kernel_rfl
theorem wpList_build_cyc {ops : Array Oper} {rest : List Oper} {o : Oper} {a : Act} {Q : Exit → Act → World → Prop} (w : World) (hgd : o.guard = none) (x y : Operand) (ho : o.op = .build 226 #[(0, x), (1, y)]) (W G : Int) (cs : Array Value) (hcs : cs = cycCells W G (List.replicate 256 0))
    (hx : a.eval x = .int .i64 W) (hy : a.eval y = .int .i64 G) (h : wpList Tryz.prog ops Q rest (a.put o.dst (.agg cs)) w) : wpList Tryz.prog ops Q (o :: rest) a w := by
  refine wpList_plain hgd fun K hK => ?_
  have hrun := run_build_cyc W G w
  rw [← hcs] at hrun
  unfold Oper.wp
  simp [execOp, ho, hx, hy, hrun, Result.andThen]
  exact hK _ _ h
def tabTo {W : Nat} (g : BitVec W) (k : Nat) : List Int := (List.range 256).map fun i => if i < k then tabOf g i else 0
section
variable {W : Nat} {g : BitVec W}
theorem tabOf_zero : tabOf g 0 = 0 := by
  unfold tabOf regOf
  have : bl (bitsOf ((0 : Nat) : Int) 8) = List.replicate 8 false := by decide
  rw [this, fbs_zero]; rfl
theorem tabTo_one : tabTo g 1 = List.replicate 256 0 := by
  unfold tabTo
  refine List.eq_replicate_iff.2 ⟨by simp, fun x hx => ?_⟩
  obtain ⟨i, _, rfl⟩ := List.mem_map.1 hx
  split
  · have : i = 0 := by omega
    subst this; exact tabOf_zero
  · rfl
theorem tabTo_len (k : Nat) : (tabTo g k).length = 256 := by simp [tabTo]
theorem tabTo_getD (k i : Nat) (h : i < 256) : (tabTo g k).getD i 0 = if i < k then tabOf g i else 0 := by
  simp [tabTo, List.getD, h]
theorem tabTo_all : tabTo g 256 = (List.range 256).map (tabOf g) := by
  unfold tabTo
  refine List.map_congr_left fun i hi => ?_
  rw [if_pos (List.mem_range.1 hi)]
theorem tabTo_succ (k : Nat) : (tabTo g k).set k (tabOf g k) = tabTo g (k + 1) := by
  apply List.ext_getElem (by simp [tabTo])
  intro i h1 h2
  have hi : i < 256 := by simpa [tabTo] using h2
  rw [List.getElem_set]
  simp only [tabTo, List.getElem_map, List.getElem_range]
  by_cases h : k = i
  · subst h; simp
  · rw [if_neg h]
    by_cases h' : i < k
    · rw [if_pos h', if_pos (by omega)]
    · rw [if_neg h', if_neg (by omega)]
theorem cycCells_at (A B : Int) (tab : List Int) (i : Nat) (h : i < tab.length) : (cycCells A B tab)[2 + i]? = some (.int .i64 (tab.getD i 0)) := by
  unfold cycCells
  rw [List.getElem?_toArray, show 2 + i = i + 1 + 1 from by omega, List.getElem?_cons_succ, List.getElem?_cons_succ, List.getElem?_map, List.getElem?_eq_getElem h]
  simp [List.getD, List.getElem?_eq_getElem h]
theorem cycCells_set (A B : Int) (tab : List Int) (i : Nat) (x : Int) : (cycCells A B tab).setIfInBounds (2 + i) (.int .i64 x) = cycCells A B (tab.set i x) := by
  unfold cycCells
  rw [List.setIfInBounds_toArray, show 2 + i = i + 1 + 1 from by omega, List.set_cons_succ, List.set_cons_succ, map_set]
end
theorem bits_half (k : Nat) : bl (bitsOf (k : Int) 8) = (bl (bitsOf ((k / 2 : Nat) : Int) 8)).drop 1 ++ [decide (((k : Int) % 2) = 1)] := by
  have e : (k : Int) = 2 * ((k / 2 : Nat) : Int) + (k : Int) % 2 := by omega
  have e2 : ∀ m b : Int, 0 ≤ b → b ≤ 1 → bitsOf (2 * m + b) 8 = topBits m 7 7 ++ [b] := by
    intro m b h0 h1
    unfold bitsOf
    rw [topBits_succ]
    have h1 : topBits (2 * m + b) 8 7 = topBits m 7 7 := by
      unfold topBits
      refine List.map_congr_left fun i hi => ?_
      have hi := List.mem_range.1 hi
      unfold bitAt
      rw [show 8 - 1 - i = (7 - 1 - i) + 1 from by omega, Int.pow_succ, Int.mul_comm (2 ^ (7 - 1 - i)) 2, ← Int.ediv_ediv_of_nonneg (by omega), show (2 * m + b) / 2 = m from by omega]
    rw [h1]
    congr 1
    unfold bitAt
    simp; omega
  have e3 : ∀ m : Int, (bitsOf m 8).drop 1 = topBits m 7 7 := by
    intro m
    unfold bitsOf topBits
    rw [show (List.range 8) = 0 :: (List.range 7).map (· + 1) from by decide, List.map_cons, List.drop_succ_cons, List.drop_zero, List.map_map]
    refine List.map_congr_left fun i hi => ?_
    have hi := List.mem_range.1 hi
    simp only [Function.comp]
    unfold bitAt
    rw [show 8 - 1 - (i + 1) = 7 - 1 - i from by omega]
  have e4 : bitsOf (k : Int) 8 = topBits ((k / 2 : Nat) : Int) 7 7 ++ [(k : Int) % 2] := by
    conv => lhs; rw [e]
    exact e2 _ _ (by omega) (by omega)
  rw [e4, bl_append, show bl (bitsOf ((k / 2 : Nat) : Int) 8) = (bitsOf ((k / 2 : Nat) : Int) 8).map (fun x => decide (x = 1)) from rfl, ← List.map_drop, e3]
  rfl
theorem bits_top (k : Nat) (h : k < 128) : bl (bitsOf (k : Int) 8) = false :: (bl (bitsOf (k : Int) 8)).drop 1 := by
  have hl : (bl (bitsOf (k : Int) 8)).length = 8 := by rw [bl_len, bitsOf_len]
  rcases hb : bl (bitsOf (k : Int) 8) with _ | ⟨b, bs⟩
  · rw [hb] at hl; simp at hl
  · have : b = decide (bitAt (k : Int) 8 0 = 1) := by
      have h2 := congrArg List.head? hb
      simp only [List.head?_cons] at h2
      unfold bl bitsOf topBits at h2
      rw [show (List.range 8) = 0 :: (List.range 7).map (· + 1) from by decide] at h2
      simp only [List.map_cons, List.head?_cons, Option.some.injEq] at h2
      exact h2.symm
    have hz : bitAt (k : Int) 8 0 = 0 := by unfold bitAt; omega
    rw [hz] at this
    subst this; rfl
theorem tabOf_half {W : Nat} (g : BitVec W) (k : Nat) (h : k < 256) : fbs g 0#W (bl (bitsOf (k : Int) 8)) = fb g (fbs g 0#W (bl (bitsOf ((k / 2 : Nat) : Int) 8))) (decide ((k : Int) % 2 = 1)) := by
  rw [bits_half k, fbs_snoc]
  congr 1
  conv => rhs; rw [bits_top (k / 2) (by omega)]
  show _ = fbs g (fb g 0#W false) _
  rw [fb_zero]
end
section
open Go.RowKit
def CycTo {W : Nat} (g : BitVec W) (w : World) (p k : Nat) : Prop := w.heap[p]? = some (.cells (cycCells W g.toNat (tabTo g k)) 226 (0, 0))
section
variable {W : Nat} {g : BitVec W} {w : World} {p k : Nat}
theorem CycTo.code (h : CycTo g w p k) : CodeAt w p W g.toNat := ⟨cell_of_row w p 0 _ _ (0, 0) h, cell_of_row w p 1 _ _ (0, 0) h⟩
theorem CycTo.cell (h : CycTo g w p k) (i : Nat) (hi : i < 256) : w.cell? ⟨p, 2 + i, none⟩ = some (.int .i64 (if i < k then tabOf g i else 0)) := by
  rw [cell_of_row w p (2 + i) _ _ (0, 0) h, cycCells_at _ _ _ _ (by rw [tabTo_len]; exact hi), tabTo_getD _ _ hi]
theorem CycTo.frozen (h : CycTo g w p k) (i : Nat) : w.frozen? ⟨p, i, none⟩ = false := frozen_of_row w p i _ _ h
theorem CycTo.store (h : CycTo g w p k) (x : Int) (hx : x = tabOf g k) : CycTo g (w.setCell ⟨p, 2 + k, none⟩ (.int .i64 x)) p (k + 1) := by
  subst hx
  have := heap_setCell_same w p (2 + k) _ _ (.int .i64 (tabOf g k)) h
  rw [cycCells_set, tabTo_succ] at this
  exact this
theorem CycTo.lt (h : CycTo g w p k) : p < w.heap.size := (Array.getElem?_eq_some_iff.1 h).1
end
theorem still_w {P : Program} {f : FuncId} {args : Array Value} {w : World} {v : Value}
    (h : Calls P f args w fun e w' => e = .returned v ∧ w = w') : Calls P f args w fun e w'' => e = .returned v ∧ w'' = w :=
  h.mono fun _ _ ⟨he, hm⟩ => ⟨he, hm.symm⟩
def CycMade {W : Nat} (g : BitVec W) (w : World) (e : Ending) (w' : World) : Prop :=
  ∃ p, e = .returned (.pointer (some ⟨p, 0, none⟩)) ∧ CycTo g w' p 256 ∧ w.heap.size ≤ p ∧ Below w.heap.size w w'
set_option maxRecDepth 100000 in
theorem newCode_any (W : Nat) (g : BitVec W) (w : World) (h1 : 3 ≤ W) (h2 : W ≤ 24) :
    Calls Tryz.prog 224 #[.agg #[.int .i64 W, .int .i64 g.toNat]] w (CycMade g w) := by
  obtain ⟨cs, hcs⟩ : ∃ cs, cs = cycCells W g.toNat (List.replicate 256 0) := ⟨_, rfl⟩
  have hcs1 : cs = cycCells W g.toNat (tabTo g 1) := by rw [tabTo_one]; exact hcs
  have HCS := Lib.hid hcs; clear hcs
  have HCS1 := Lib.hid hcs1; clear hcs1
  obtain ⟨G, hG⟩ : ∃ G, G = (g.toNat : Int) := ⟨_, rfl⟩
  have hb0 : Below w.heap.size w (w.alloc (.cells #[.int .i64 W, .int .i64 G] 190)) := (Below.refl _ _).alloc (Nat.le_refl _) _
  have HB := Lib.hid hb0; clear hb0
  rw [← hG]
  have HG := Lib.hid hG; clear hG
  go_enter Tryz.func224, Tryz.ntmps224
  go_wp2_with (with_reducible refine wpList_build_cyc _ rfl (.tmp 6) (.tmp 8) rfl W G cs (by rw [HG.out]; exact HCS.out) rfl rfl ?_)
  go_loopw [4] (fun i wr => ∃ k : Nat, 1 ≤ k ∧ k ≤ 256 ∧ i = .int .i64 k ∧ CycTo g wr (w.heap.size + 1) k ∧ Below w.heap.size w wr) (fun i _ => 256 - (intOf i).toNat)
  case atStart =>
    refine ⟨1, Nat.le_refl _, by omega, rfl, ?_, HB.out.alloc (by simp) _⟩
    unfold CycTo
    rw [← HCS1.out]
    have := heap_alloc_new (w.alloc (.cells #[.int .i64 W, .int .i64 G] 190)) (.cells cs 226)
    simpa using this
  case round =>
    obtain ⟨k, hk0, hk, rfl, hcyc, hbel⟩ := hrel
    by_cases hlt : k < 256
    · obtain ⟨h, hh⟩ : ∃ h : Nat, h = k / 2 := ⟨_, rfl⟩
      have hkh : (k : Int) / 2 = (h : Int) := by omega
      have hh2 : h < 256 := by omega
      have hh3 : (h : Int) < 256 := by omega
      have hk3 : (k : Int) < 256 := by omega
      have hld := hcyc.cell h hh2
      rw [if_pos (by omega)] at hld
      have hcd := hcyc.code
      have hst := hcyc.cell k hlt
      have hfz := hcyc.frozen (2 + k)
      have hnew := hcyc.store (tabOf g k) rfl
      have hbn : Below w.heap.size w (wr.setCell ⟨w.heap.size + 1, 2 + k, none⟩ (.int .i64 (tabOf g k))) := hbel.setCell (by simp) _
      have hlt2 := hcyc.lt
      have hhalf : ((fb g (fbs g 0#W (bl (bitsOf (h : Int) 8))) (decide ((k : Int) % 2 = 1))).toNat : Int) = tabOf g k := by
        unfold tabOf regOf; rw [tabOf_half g k hlt, hh]
      have hand := and_one (k : Int)
      obtain ⟨y, hy⟩ : ∃ y : BitVec W, y = fbs g 0#W (bl (bitsOf (h : Int) 8)) := ⟨_, rfl⟩
      have hx : tabOf g h = (y.toNat : Int) := by rw [hy]; rfl
      rw [← hy] at hhalf
      rw [hx] at hld
      have HC := Lib.hid hcd; clear hcd
      obtain ⟨z, hz⟩ : ∃ z, z = (if k < k then tabOf g k else 0) := ⟨_, rfl⟩
      rw [← hz] at hst
      obtain ⟨u, hu⟩ : ∃ u, u = tabOf g k := ⟨_, rfl⟩
      rw [← hu] at hnew hbn hhalf
      have HN := Lib.hid hnew; clear hnew hz hu
      have HBN := Lib.hid hbn; clear hbn hbel hcyc
      have HH := Lib.hid hhalf; clear hhalf hy hx hh
      have hm0 : 0 ≤ (k : Int) % 2 := by omega
      have hm1 : (k : Int) % 2 ≤ 1 := by omega
      go_wp2
      go_still_tail 16, (by kernel_rfl)
      still_call (still_w (afterBit_any (w.heap.size + 1) W g y ((k : Int) % 2) _ h1 h2 HC.out ⟨hm0, hm1⟩))
      rw [HH.out]
      repeat still_step
      refine wpStill_nil ?_
      change wpList _ _ _ _ _ wr.drew
      go_wp2
      go_roundw
      case rel => exact ⟨k + 1, by omega, by omega, by go_num, HN.out, HBN.out.drew⟩
      case measure => simp [intOf]; omega
    · have hkn : k = 256 := by omega
      subst hkn
      have HC := Lib.hid hcyc; clear hcyc
      go_wp2
      go_ret
      exact ⟨_, rfl, HC.out, by omega, hbel⟩
end
section
open Go.RowKit
def crcErr (wd p s : Int) (b : Bool) : Int := if crcCode wd p s ≠ 0 then crcCode wd p s else if b = false then 3 else 0
theorem crcErr_code {wd p s : Int} {b : Bool} (h : crcCode wd p s ≠ 0) : crcErr wd p s b = crcCode wd p s := by unfold crcErr; rw [if_pos h]
theorem crcErr_3 {wd p s : Int} (h : crcCode wd p s = 0) : crcErr wd p s false = 3 := by unfold crcErr; rw [if_neg (by simp [h]), if_pos rfl]
theorem crcErr_0 {wd p s : Int} (h : crcCode wd p s = 0) : crcErr wd p s true = 0 := by unfold crcErr; rw [if_neg (by simp [h]), if_neg (by simp)]
theorem crcErr_any (wd p s : Int) (b : Bool) (w : World) : Calls Tryz.prog 223 #[.agg #[.int .i64 wd, .int .i64 p], .int .i64 s, .bool b] w fun e w' =>
    e = .returned (.int .i64 (crcErr wd p s b)) ∧ Below w.heap.size w w' := crcError_any wd p s b w
end
end

section
section
open Go.RowKit
theorem afterByte_any (p W : Nat) (g r : BitVec W) (v : Nat) (w : World) (h1 : 3 ≤ W) (h2 : W ≤ 24) (hc : CycTo g w p 256) (hv : v < 256) :
    Calls Tryz.prog 232 #[.pointer (some ⟨p, 0, none⟩), .int .i64 r.toNat, .int .i64 v] w fun e w' => e = .returned (.int .i64 ((fbs g r (bl (bitsOf (v : Int) 8))).toNat : Int)) ∧ ∃ q, w' = w.drewN q := by
  obtain ⟨hc0, -⟩ := hc.code
  have hp := pow40 W (by omega)
  have hr := reg_lt h2 r
  have hj := byte_index v hv r
  have hx := byte_xor (r := r) v hv h2
  have hlow := byte_low (r := r) h2
  have hstep := byte_step (g := g) (r := r) v
  obtain ⟨j, hjj⟩ : ∃ j, j = r.toNat * 256 / 2 ^ W ^^^ v := ⟨_, rfl⟩
  rw [← hjj] at hj hx hstep
  have hcell := hc.cell j hj
  rw [if_pos hj] at hcell
  have hfin : bits .xor .i64 (tabOf g j) (bits .and .i64 ((r.toNat : Int) * 256) ((2 : Int) ^ W - 1)) = ((fbs g r (bl (bitsOf (v : Int) 8))).toNat : Int) := by
    rw [hstep, hlow]; exact reg_xor h2 _ _
  obtain ⟨R, hR⟩ : ∃ R, R = (r.toNat : Int) := ⟨_, rfl⟩
  obtain ⟨T, hT⟩ : ∃ T, T = tabOf g j := ⟨_, rfl⟩
  obtain ⟨F, hF⟩ : ∃ F, F = ((fbs g r (bl (bitsOf (v : Int) 8))).toNat : Int) := ⟨_, rfl⟩
  rw [← hR] at hr hx hfin ⊢
  rw [← hT] at hcell hfin
  rw [← hF] at hfin ⊢
  obtain ⟨hr0, hr1⟩ := hr
  have hj1 : (j : Int) < 256 := by omega
  have HF := Lib.hid hfin; clear hfin hR hT hF hjj hlow hstep hc
  go_enter Tryz.func232, Tryz.ntmps232
  go_wp2
  go_quiet ((go_at_call 230; exact quiet_w (great_any _ _ h2)))
  go_wp2
  go_ret
  exact ⟨ret_int HF.out, _, rfl⟩
theorem flat_take (xs : List Int) (k : Nat) (hk : k < xs.length) : (xs.take (k + 1)).flatMap (bitsOf · 8) = (xs.take k).flatMap (bitsOf · 8) ++ bitsOf (xs.getD k 0) 8 := by
  rw [take_succ' xs k hk, List.flatMap_append]; simp
def ReadsInt (w : World) (n : Int) (e : Ending) (w' : World) : Prop := e = .returned (.int .i64 n) ∧ Below w.heap.size w w'
theorem afterBytes_any (p W : Nat) (g r : BitVec W) (ao : Option Addr) (n cap : Nat) (xs : List Int) (w : World) (h1 : 3 ≤ W) (h2 : W ≤ 24) (hc : CycTo g w p 256) (hr : Rd w ao n xs) (hn : n ≤ 1048576) (hbytes : ∀ x ∈ xs, 0 ≤ x ∧ x ≤ 255) :
    Calls Tryz.prog 225 #[.pointer (some ⟨p, 0, none⟩), .int .i64 r.toNat, .slice ao n cap] w (ReadsInt w (regOf g r (xs.flatMap (bitsOf · 8)))) := by
  obtain ⟨hlen, hat⟩ := hr
  have HL := Lib.hid hlen; clear hlen
  have HA := Lib.hid hat; clear hat
  have HZ := Lib.hid hbytes; clear hbytes
  have HC := Lib.hid hc; clear hc
  go_enter Tryz.func225, Tryz.ntmps225
  go_wp2
  go_loopw [1, 11] (fun v i wr => ∃ (k : Nat) (y : BitVec W) (q : Nat), k ≤ n ∧ i = .int .i64 k ∧ v = .int .i64 y.toNat ∧ Hid (fbs g r (bl ((xs.take k).flatMap (bitsOf · 8))) = y) ∧ wr = w.drewN q) (fun _ i _ => n - (intOf i).toNat)
  case atStart => exact ⟨0, r, 0, Nat.zero_le _, rfl, rfl, rfl, rfl⟩
  case round =>
    obtain ⟨k, y, q, hk, rfl, rfl, HY, rfl⟩ := hrel
    by_cases hlt : k < n
    · obtain ⟨b, off, rfl, hall⟩ := HA.out (by omega)
      have hck := hall k hlt
      clear HA hall
      have hkx : k < xs.length := by rw [HL.out]; exact hlt
      have hb0 := HZ.out (xs.getD k 0) (getD_mem' hkx)
      have hfin : fbs g r (bl ((xs.take (k + 1)).flatMap (bitsOf · 8))) = fbs g y (bl (bitsOf (xs.getD k 0) 8)) := by rw [flat_take xs k hkx, bl_append, fbs_append, HY.out]
      obtain ⟨x, hx⟩ : ∃ x, x = (xs.getD k 0).toNat := ⟨_, rfl⟩
      have hx1 : xs.getD k 0 = (x : Int) := by omega
      have hx2 : x < 256 := by omega
      rw [hx1] at hck hfin
      obtain ⟨z, hz⟩ : ∃ z, z = fbs g y (bl (bitsOf (x : Int) 8)) := ⟨_, rfl⟩
      rw [← hz] at hfin
      have HF := Lib.hid hfin; clear hfin hx hx1 hkx HZ hb0
      have HZZ := Lib.hid hz; clear hz
      go_wp2_with fail
      refine (afterByte_any p W g y x _ h1 h2 (show CycTo g (w.drewN q) p 256 from HC.out) hx2).mono ?_
      rintro e w' ⟨rfl, q', rfl⟩
      rw [← HZZ.out]
      go_wp2
      go_roundw
      case rel => exact ⟨k + 1, z, _, by omega, by go_num, rfl, HF.out, rfl⟩
      case measure => simp [intOf]; omega
    · have hkn : k = n := by omega
      subst hkn
      have hfin : (y.toNat : Int) = regOf g r (xs.flatMap (bitsOf · 8)) := by unfold regOf; rw [← HY.out, List.take_of_length_le (by rw [HL.out]; exact Nat.le_refl _)]
      have HF := Lib.hid hfin; clear hfin
      go_wp2
      go_ret
      exact ⟨ret_int HF.out, below_drewN' (Below.refl _ _) _⟩
theorem coy_code {wd p s : Int} {xs : List Int} (h : crcCode wd p s ≠ 0) : crcOfBytes wd p s xs = (0, crcCode wd p s) := by unfold crcOfBytes; rw [if_pos h]
theorem coy_3 {wd p s : Int} {xs : List Int} (h : crcCode wd p s = 0) (hb : isBytes xs = false) : crcOfBytes wd p s xs = (0, 3) := by unfold crcOfBytes; rw [if_neg (by simp [h]), if_pos hb]
theorem coy_0 {wd p s : Int} {xs : List Int} (h : crcCode wd p s = 0) (hb : isBytes xs = true) : crcOfBytes wd p s xs = (crcRaw wd p s (xs.flatMap (bitsOf · 8)), 0) := by unfold crcOfBytes; rw [if_neg (by simp [h]), if_neg (by simp [hb])]
theorem coy_err {wd p s : Int} {xs : List Int} (h : crcErr wd p s (isBytes xs) ≠ 0) : crcOfBytes wd p s xs = (0, crcErr wd p s (isBytes xs)) := by
  by_cases h1 : crcCode wd p s = 0
  · rcases hb : isBytes xs with _ | _
    · rw [coy_3 h1 hb, crcErr_3 h1]
    · rw [hb, crcErr_0 h1] at h; exact absurd rfl h
  · rw [coy_code h1, crcErr_code h1]
theorem crcErr_ok {wd p s : Int} {b : Bool} (h : crcErr wd p s b = 0) : crcCode wd p s = 0 ∧ b = true := by
  by_cases h1 : crcCode wd p s = 0
  · cases b
    · rw [crcErr_3 h1] at h; omega
    · exact ⟨h1, rfl⟩
  · rw [crcErr_code h1] at h; exact absurd h h1
set_option maxRecDepth 100000 in
theorem crcOfBytes_any (wd p s : Int) (ao : Option Addr) (cap : Nat) (xs : List Int) (w : World) (hr : Rd w ao xs.length xs) (hn : xs.length ≤ 1048576) :
    Calls Tryz.prog 219 #[.agg #[.int .i64 wd, .int .i64 p], .int .i64 s, .slice ao xs.length cap] w fun e w' =>
      e = .returned (.tuple #[.int .i64 (crcOfBytes wd p s xs).1, .int .i64 (crcOfBytes wd p s xs).2]) ∧ Below w.heap.size w w' := by
  have hb0 : Below w.heap.size w (w.alloc (.cells #[.int .i64 wd, .int .i64 p] 190)) := (Below.refl _ _).alloc (Nat.le_refl _) _
  have hsc := struct_cells (w := w) wd p 190
  have HB := Lib.hid hb0.drew; clear hb0
  have HR := Lib.hid hr; clear hr
  by_cases he : crcErr wd p s (isBytes xs) = 0
  · obtain ⟨hc, hbt⟩ := crcErr_ok he
    rw [coy_0 hc hbt]
    have hbytes := (isBytes_iff.1 hbt).2
    have HZ := Lib.hid hbytes; clear hbytes
    have HE := Lib.hid he; clear he
    obtain ⟨W, g, r, rfl, h1, h2, rfl, h3, rfl⟩ := crcCode_zero hc
    rw [crcRaw_eq]
    clear hbt hc
    have HS := Lib.hid hsc; clear hsc
    go_enter Tryz.func219, Tryz.ntmps219
    go_wp2
    generalize World.alloc w (.cells #[.int .i64 W, .int .i64 g.toNat] 190) = w0 at HS HB ⊢
    have hsc := HS.out
    obtain ⟨hsc0, hsc1⟩ := hsc
    go_still_tail 4, (by kernel_rfl)
    still_call (still_w (isBytes_any _ _ _ _ _ (HR.out.below HB.out) (by omega)))
    refine wpStill_nil ?_
    change wpList _ _ _ _ _ w0.drew
    go_wp2_with fail
    refine (crcErr_any _ _ _ _ _).mono ?_
    rintro e w1 ⟨rfl, b1⟩
    rw [HE.out]
    have b2 := below_two HB.out b1
    have hc0 := (b1.cell (p := ⟨w.heap.size, 0, none⟩) (World.block_lt_of_cell? _ _ hsc0)).trans hsc0
    have hc1 := (b1.cell (p := ⟨w.heap.size, 1, none⟩) (World.block_lt_of_cell? _ _ hsc1)).trans hsc1
    go_wp2_with fail
    refine (newCode_any W g _ h1 h2).mono ?_
    rintro e w2 ⟨p2, rfl, hcy, -, b3⟩
    have b4 := below_two b2 b3
    have HC := Lib.hid hcy; clear hcy
    go_wp2_with fail
    refine (afterBytes_any p2 W g r _ _ _ xs _ h1 h2 HC.out (HR.out.below b4) hn HZ.out).mono ?_
    rintro e w3 ⟨rfl, b5⟩
    go_wp2
    go_ret2
    exact ⟨rfl, below_two b4 b5⟩
  · rw [coy_err he]
    have t1 : (crcErr wd p s (isBytes xs) == 0) = false := by simpa using he
    have t2 : (crcErr wd p s (isBytes xs) != 0) = true := by simpa using he
    obtain ⟨q, hq⟩ : ∃ q, q = crcErr wd p s (isBytes xs) := ⟨_, rfl⟩
    rw [← hq] at t1 t2 ⊢
    have HQ := Lib.hid hq; clear hq he
    have HS := Lib.hid hsc; clear hsc
    go_enter Tryz.func219, Tryz.ntmps219
    go_wp2
    generalize World.alloc w (.cells #[.int .i64 wd, .int .i64 p] 190) = w0 at HS HB ⊢
    have hsc := HS.out
    obtain ⟨hsc0, hsc1⟩ := hsc
    go_still_tail 4, (by kernel_rfl)
    still_call (still_w (isBytes_any _ _ _ _ _ (HR.out.below HB.out) (by omega)))
    refine wpStill_nil ?_
    change wpList _ _ _ _ _ w0.drew
    go_wp2_with fail
    refine (crcErr_any _ _ _ _ _).mono ?_
    rintro e w1 ⟨rfl, b1⟩
    rw [← HQ.out]
    have b2 := below_two HB.out b1
    go_wp2
    go_ret2
    exact ⟨rfl, b2⟩
end
section
open Go.RowKit
end
section
open Go.RowKit
theorem CycTo.rd {W : Nat} {g : BitVec W} {w : World} {p : Nat} (h : CycTo g w p 256) : Rd w (some ⟨p, 2, none⟩) 256 ((List.range 256).map (tabOf g)) := by
  rw [← tabTo_all]
  refine ⟨tabTo_len _, fun _ => ⟨p, 2, rfl, fun i hi => ?_⟩⟩
  rw [cell_of_row w p (2 + i) _ _ (0, 0) h, cycCells_at _ _ _ _ (by rw [tabTo_len]; exact hi)]
end
section
open Go.RowKit
end
section
open Go.RowKit
def GivesCrc (w : World) (wd p : Int) (e : Ending) (w' : World) : Prop := e = .returned (.agg #[.int .i64 wd, .int .i64 p]) ∧ Below w.heap.size w w'
theorem sStandardCrc_any (w : World) : Calls Tryz.prog 185 #[] w (GivesCrc w 24 6122955) := by
  go_enter Tryz.func185, Tryz.ntmps185
  go_wp2
  exact bodyPost_ret (v := .agg #[.int .i64 24, .int .i64 6122955]) (by simp [results, Tryz.results185, go_sem]) rfl ⟨rfl, (Below.refl _ _).alloc (Nat.le_refl _) _⟩
theorem standardCrc_any (w : World) : Calls Tryz.prog 220 #[] w (GivesCrc w 24 6122955) := by
  go_enter Tryz.func220, Tryz.ntmps220
  go_wp2
  exact bodyPost_ret (v := .agg #[.int .i64 24, .int .i64 6122955]) (by simp [results, Tryz.results220, go_sem]) rfl ⟨rfl, (Below.refl _ _).alloc (Nat.le_refl _) _⟩
end
end

section
section
open Go.RowKit
theorem flat_drop (xs : List Int) (i : Nat) (h : i < xs.length) : ((xs.flatMap (bitsOf · 8)).drop (8 * i)).take 8 = bitsOf (xs.getD i 0) 8 := by
  induction xs generalizing i with
  | nil => simp at h
  | cons x xs ih =>
    rw [List.flatMap_cons]
    cases i with
    | zero => simp only [Nat.mul_zero, List.drop_zero, List.getD_cons_zero]; rw [List.take_append_of_le_length (by rw [bitsOf_len]; exact Nat.le_refl _), List.take_of_length_le (by rw [bitsOf_len]; exact Nat.le_refl _)]
    | succ i =>
      rw [show 8 * (i + 1) = (bitsOf x 8).length + 8 * i from by rw [bitsOf_len]; omega, List.drop_append, List.drop_of_length_le (by omega), List.nil_append, Nat.add_sub_cancel_left, List.getD_cons_succ]
      exact ih i (by simpa using h)
theorem bytes_round {xs out : List Int} (h : bytesToBits xs = (out, 0)) : out.length = 8 * xs.length ∧ bitsToBytes out = (xs, 0) := by
  unfold bytesToBits at h
  split at h
  · cases h
  · rename_i h1
    have h1 := isBytes_iff.1 (by simpa using h1)
    simp only [Prod.mk.injEq, and_true] at h
    subst h
    have hl := flat_len xs
    refine ⟨hl, ?_⟩
    rw [bi_0 (isBits_iff.2 ⟨by omega, fun x hx => ?_⟩) (by omega)]
    · rw [hl, show 8 * xs.length / 8 = xs.length from by omega]
      congr 1
      apply List.ext_getElem (by rw [bytesTo_len])
      intro i h2 h3
      have e : (bytesTo (xs.flatMap (bitsOf · 8)) xs.length).getD i 0 = xs.getD i 0 := by
        rw [bytesTo_getD _ _ _ h3, flat_drop xs i h3]
        have := h1.2 _ (getD_mem' h3)
        exact numOf_bitsOf _ 8 this.1 (by omega)
      rw [List.getD, List.getElem?_eq_getElem h2, List.getD, List.getElem?_eq_getElem h3] at e
      exact e
    · obtain ⟨y, _, hy⟩ := List.mem_flatMap.1 hx
      exact bitsOf_bits y 8 x hy
end
section
open Go.RowKit
end
end

section
open Go.RowKit
theorem three_round {x : Int} (h : 0 ≤ x ∧ x ≤ 16777215) : bitsToBytes (bitsOf x 24) = (three x, 0) := by
  have hb := three_bytes h
  have h1 : bytesToBits (three x) = (bitsOf x 24, 0) := by
    rw [bb_0 (isBytes_iff.2 ⟨by rw [three_len]; omega, hb⟩), ← three_bits h]; rfl
  exact (bytes_round h1).2
theorem bytesOfNumber_any (x : Int) (w : World) (h : 0 ≤ x ∧ x ≤ 16777215) : Calls Tryz.prog 83 #[.int .i64 x, .int .i64 3] w (Makes 2 w (three x)) := by
  have he := three_round h
  have hl := bitsOf_len x 24
  have hp := fun W => push_any W.heap.size (.slice none 0 0) [] x 24 W Own.nil_ (by simp) (Nat.le_refl _) (by omega)
  simp only [List.nil_append] at hp
  generalize bitsOf x 24 = bs at he hl hp
  generalize three x = ys at he ⊢
  have HE := Lib.hid he; have HL := Lib.hid hl; have HP := Lib.hid hp; clear he hl hp
  go_enter Tryz.func83, Tryz.ntmps83
  go_wp2_with fail
  refine (HP.out _).mono ?_
  rintro e w1 ⟨v1, rfl, o1, b1⟩
  obtain ⟨p1, c1, rfl, o1, r1⟩ := o1.get
  go_wp2_with fail
  refine (bitsToBytes_any _ _ _ _ r1 (by rw [HL.out]; omega) (Own.cap o1).1).mono ?_
  rintro e w2 m2
  rw [HE.out] at m2
  change Makes2 2 _ ys 0 _ _ at m2
  obtain ⟨p2, c2, rfl, o2, -, b2⟩ := m2.get
  have O2 := Lib.hid (o2.more b1.size)
  have B2 := Lib.hid (below_two b1 b2)
  clear m2 o1 o2 r1 b1 b2
  go_wp2
  go_ret
  exact ⟨_, rfl, O2.out, B2.out⟩
theorem bytesOfCheck_any (x : Int) (w : World) (h : 0 ≤ x ∧ x ≤ 16777215) : Calls Tryz.prog 221 #[.int .i64 x] w (Makes 2 w (three x)) := by
  have HC := Lib.hid (bytesOfNumber_any x w h)
  go_enter Tryz.func221, Tryz.ntmps221
  go_wp2_with fail
  refine HC.out.mono ?_
  rintro e w1 ⟨v1, rfl, o1, b1⟩
  go_wp2
  go_ret
  exact ⟨_, rfl, o1, b1⟩
theorem feedStd_any (y : BitVec 24) (ao : Option Addr) (n cap : Nat) (xs : List Int) (id : Int) (w : World) (hid : (y.toNat : Int) = id) (hr : Rd w ao n xs) (hn : n ≤ 1048576) (hb : ∀ x ∈ xs, 0 ≤ x ∧ x ≤ 1) :
    Calls Tryz.prog 184 #[.agg #[.int .i64 24, .int .i64 6122955], .int .i64 id, .slice ao n cap] w fun e w' => e = .returned (.int .i64 (regOf stdG y xs)) ∧ Below w.heap.size w w' := by
  subst hid
  have h := feed_any 24 stdG y ao n cap xs w (by omega) (by omega) hr hn hb
  rw [std_nat] at h
  exact h
end

section
open Go.RowKit
theorem isId_any (x : Int) (w : World) : Calls Tryz.prog 121 #[.int .i64 x] w fun e w' => e = .returned (.bool (inRange 0 16777215 x)) ∧ w = w' := by
  by_cases h0 : x < 0
  · rw [show inRange 0 16777215 x = false from by simp [inRange]; omega]
    go_enter Tryz.func121, Tryz.ntmps121
    go_wp2
    go_ret
    exact ⟨rfl, rfl⟩
  · by_cases h1 : 16777215 < x
    · rw [show inRange 0 16777215 x = false from by simp [inRange]; omega]
      go_enter Tryz.func121, Tryz.ntmps121
      go_wp2
      go_ret
      exact ⟨ret_bool (decide_eq_false (by omega)), rfl⟩
    · rw [show inRange 0 16777215 x = true from by simp [inRange]; omega]
      go_enter Tryz.func121, Tryz.ntmps121
      go_wp2
      go_ret
      exact ⟨rfl, rfl⟩
section
variable {T b : Nat} {w w' : World} {p : Value} {id t m r s k : Int}
end
end

section
open Go.RowKit
theorem info64_intC : (Tryz.prog.underlying 3) = some (.int .i64) := by kernel_rfl
set_option maxRecDepth 100000 in
theorem growI_any (n : Nat) (w : World) (h0 : 0 < n) (hn : n ≤ 20000) : Calls Tryz.prog 141 #[.slice none 0 0, .int .i64 n] w (Makes 2 w []) := by
  obtain ⟨i0, hi, hz0, hz1, hz2⟩ := info_parts (P := Tryz.prog) (e := 2) info64
  have hrun := fun ty => Lib.run_append_nil_zeros (P := Tryz.prog) w 35 3 ty 2 i0 (.int .i64 0) .i64 .i64 Tryz.underlying35 info64_intC hi hz0 n h0 (by rw [hz1]; decide) (by omega) (by rw [hz2]; omega)
  have hge := grownCap_ge w n 0 2
  have hcm : grownCap w n 0 2 ≤ maxLen := grownCap_le_maxLen w n 0 2 (by unfold maxLen; omega)
  generalize grownCap w n 0 2 = gc at hrun hge hcm
  have hcell : ((Value.int .i64 0).cells) = #[Value.int .i64 0] := rfl
  obtain ⟨cur, hcur⟩ : ∃ cur, Builtin.zeroCells (Value.int .i64 0).cells n ++ Builtin.zeroCells (Value.int .i64 0).cells (gc - n) = cur := ⟨_, rfl⟩
  have hsz : cur.size = gc := by rw [← hcur, Array.size_append, size_zeroCells, size_zeroCells, hcell]; simp; omega
  rw [hcur] at hrun
  have hRUN := Lib.hid hrun; clear hrun hcur hcell
  have hk0 : ¬ ((n : Int) < 0) := by omega
  have hk1 : (0 : Int) < (n : Int) := by omega
  have hgc : (0 : Int) ≤ (gc : Int) := by omega
  have hbl : Below w.heap.size w (w.drew.alloc (.cells cur 2)) := ((Below.refl _ _).drew).alloc (Nat.le_refl _) _
  have hown : Own 2 (w.drew.alloc (.cells cur 2)) w.heap.size (.slice (some ⟨w.heap.size, 0, none⟩) 0 gc) [] :=
    ⟨by simp, .inr ⟨w.heap.size, gc, cur, by simp, Nat.le_refl _, heap_alloc_new w.drew _, by simp, hcm, by rw [hsz, Nat.mul_one], by simp⟩⟩
  have HO := Lib.hid hown; have HBL := Lib.hid hbl; clear hown hbl
  go_enter Tryz.func141, Tryz.ntmps141
  go_wp2_with (at_builtin; refine Lib.wpList_append_run w rfl (.tmp 20) (.tmp 21) 35 3 rfl (.slice none 0 0) (.int .i64 n) rfl rfl _ _ (hRUN.out _) ?_)
  go_ret
  exact ⟨_, rfl, HO.out, HBL.out⟩
def sumI (N : Nat → Nat) : Nat → Nat
  | 0 => 0
  | k + 1 => sumI N k + N k
def catI (T : Nat → List Int) : Nat → List Int
  | 0 => []
  | k + 1 => catI T k ++ T k
theorem catI_len {N : Nat → Nat} {T : Nat → List Int} {M : Nat} (h : ∀ i, i < M → (T i).length = N i) : ∀ k, k ≤ M → (catI T k).length = sumI N k
  | 0, _ => rfl
  | k + 1, hk => by rw [catI, sumI, List.length_append, catI_len h k (by omega), h k (by omega)]
theorem sumI_le {N : Nat → Nat} {B : Nat} (h : ∀ i, N i ≤ B) : ∀ k, sumI N k ≤ k * B
  | 0 => by simp [sumI]
  | k + 1 => by have := sumI_le h k; have := h k; rw [sumI, Nat.succ_mul]; omega
set_option maxRecDepth 100000 in
set_option maxHeartbeats 2000000 in
theorem concatI_any (G M cap : Nat) (A : Nat → Option Addr) (N C : Nat → Nat) (T : Nat → List Int) (w : World) (hM : M ≤ 10) (hc : ∀ i, i < M → w.cell? ⟨G, i, none⟩ = some (.slice (A i) (N i) (C i))) (hr : ∀ i, i < M → Rd w (A i) (N i) (T i)) (hN : ∀ i, N i ≤ 1000) (hpos : 0 < sumI N M) (hG : G < w.heap.size) :
    Calls Tryz.prog 82 #[.slice (some ⟨G, 0, none⟩) M cap] w (Makes 2 w (catI T M)) := by
  have HC := Lib.hid hc; have HR := Lib.hid hr
  have HTL := Lib.hid (catI_len (fun i hi => (hr i hi).len))
  have HSL := Lib.hid (fun k => sumI_le (B := 1000) hN k)
  have HN := Lib.hid hN
  clear hc hr hN
  go_enter Tryz.func82, Tryz.ntmps82
  go_wp2
  go_loopw [3, 5, 11] (fun sz _u i wr => ∃ k : Nat, k ≤ M ∧ i = .int .i64 k ∧ sz = .int .i64 ((sumI N k : Nat) : Int) ∧ w = wr) (fun _ _ i _ => M - (intOf i).toNat)
  case atStart => exact ⟨0, Nat.zero_le _, rfl, rfl, rfl⟩
  case round =>
    obtain ⟨k, hk, rfl, rfl, rfl⟩ := hrel
    by_cases hlt : k < M
    · have hck := HC.out k hlt
      have h1 := HSL.out k
      have h2 := HN.out k
      have h3 : k * 1000 ≤ 10000 := by omega
      have hsn : sumI N (k + 1) = sumI N k + N k := rfl
      have HSN := Lib.hid hsn
      generalize sumI N k = s at h1 hsn HSN ⊢
      generalize N k = nk at h2 hsn HSN hck
      have hw1 : IntKind.i64.wrap ((s : Int) + (nk : Int)) = (s : Int) + (nk : Int) := by rw [IntKind.wrap_i64]; omega
      have hw2 : ¬ ((s : Int) + (nk : Int) < 0) := by omega
      clear hsn h1 h2 h3
      go_wp2
      go_roundw
      case rel => exact ⟨k + 1, by omega, by go_num, by rw [HSN.out]; simp, by first | rfl | trivial⟩
      case measure => simp [intOf]; omega
    · have hkn : k = M := by omega
      subst hkn
      have h1 := HSL.out k
      have HGROW := Lib.hid (growI_any (sumI N k) w hpos (by omega))
      clear h1
      go_wp2_with fail
      refine HGROW.out.mono ?_
      rintro e w1 m1
      obtain ⟨pg, cg, rfl, og, -, bg⟩ := m1.get
      have OG := Lib.hid og
      have BG := Lib.hid bg
      clear m1 og bg HGROW
      go_wp2
      go_loopw [6, 8, 27] (fun s _u i wr => ∃ (q : Nat) (v : Value), q ≤ k ∧ v = s ∧ i = .int .i64 q ∧ Hid (Own 2 wr w.heap.size v (catI T q)) ∧ Hid (Below w.heap.size w wr)) (fun _ _ i _ => k - (intOf i).toNat)
      case atStart => exact ⟨0, _, Nat.zero_le _, rfl, rfl, OG.out, BG.out⟩
      case round =>
        clear OG BG
        obtain ⟨q, v, hq, rfl, rfl, HO, HB⟩ := hrel
        by_cases hqk : q < k
        · have hck := (HB.out.cell (p := ⟨G, q, none⟩) hG).trans (HC.out q hqk)
          have hrk := (HR.out q hqk).below HB.out
          have hlen : (catI T q).length + N q ≤ 4294967296 := by have h1 := HTL.out q (by omega); have h2 := HSL.out q; have h3 := HN.out q; omega
          have HE := Lib.hid (show catI T (q + 1) = catI T q ++ T q from rfl)
          have HRK := Lib.hid hrk
          have hbs := HB.out.size
          generalize N q = nq at hck HRK hlen
          generalize C q = cq at hck
          generalize A q = aq at hck HRK
          clear hrk
          go_wp2_with (at_builtin; go_loud (refine append_list _ rfl (.tmp 31) (.tmp 32) rfl w.heap.size Tryz.underlying35 info64 v (catI T q) rfl HO.out aq nq cq (T q) rfl HRK.out hlen hbs ?_); intro v2 w2 o2 b2)
          rw [← HE.out] at o2
          have HO2 := Lib.hid o2; have HB2 := Lib.hid (HB.out.trans b2)
          clear o2 b2
          go_roundw
          case rel => exact ⟨q + 1, v2, by omega, rfl, by go_num, HO2, HB2⟩
          case measure => simp [intOf]; omega
        · have hqn : q = k := by omega
          subst hqn
          go_wp2
          go_ret
          exact ⟨v, rfl, HO.out, HB.out⟩
end

section
section
def checkOf (k : Int) (xs : List Int) : Int := regOf stdG (regS (k + 1)) (bitsOf8 xs)
def blocksOf (n : Nat) : Nat := max 1 ((n + 27) / 28)
def partOf (data : List Int) (k : Nat) : List Int := (data.drop (28 * k)).take 28
def headOf (data : List Int) (k : Nat) : List Int := [(k : Int), (partOf data k).length + (if k + 1 = blocksOf data.length then 128 else 0)] ++ partOf data k
def blockOf (data : List Int) (k : Nat) : List Int := headOf data k ++ three (checkOf k (headOf data k))
def image9 (data : List Int) : List Int := (List.range (blocksOf data.length)).flatMap (blockOf data)
def imageOf (data : List Int) : List Int × Int := if isBytes data = false then ([], 2) else if 868 < data.length then ([], 3) else (image9 data, 0)
theorem flat_width (f : Nat → List Int) (L : Nat) : ∀ n, (∀ j, j < n → (f j).length = L) → ((List.range n).flatMap f).length = L * n
  | 0, _ => by simp
  | n + 1, h => by
    rw [List.range_succ, List.flatMap_append, List.length_append, flat_width f L n (fun j hj => h j (by omega))]
    simp [h n (by omega), Nat.mul_succ]
theorem blocks_pos (n : Nat) : 1 ≤ blocksOf n := Nat.le_max_left _ _
theorem blocks_hi (n : Nat) : n ≤ 28 * blocksOf n := by unfold blocksOf; omega
theorem blocks_lo (n k : Nat) (h : k + 1 < blocksOf n) : 28 * (k + 1) < n := by unfold blocksOf at h; omega
theorem blocks_31 {n : Nat} (h : n ≤ 868) : blocksOf n ≤ 31 := by unfold blocksOf; omega
theorem part_len (data : List Int) (k : Nat) : (partOf data k).length = min 28 (data.length - 28 * k) := by unfold partOf; rw [List.length_take, List.length_drop]
theorem part_whole (data : List Int) (k : Nat) (h : k + 1 < blocksOf data.length) : (partOf data k).length = 28 := by
  rw [part_len]
  have := blocks_lo _ _ h
  omega
theorem head_len (data : List Int) (k : Nat) : (headOf data k).length = (partOf data k).length + 2 := by unfold headOf; rw [List.length_append]; simp; omega
theorem block_len (data : List Int) (k : Nat) : (blockOf data k).length = (partOf data k).length + 5 := by unfold blockOf; rw [List.length_append, head_len, three_len]
theorem block_le (data : List Int) (k : Nat) : (blockOf data k).length ≤ 33 := by rw [block_len, part_len]; omega
theorem image_len (data : List Int) : (image9 data).length = data.length + 5 * blocksOf data.length := by
  unfold image9
  obtain ⟨m, hm⟩ : ∃ m, blocksOf data.length = m + 1 := ⟨blocksOf data.length - 1, by have := blocks_pos data.length; omega⟩
  have hl := blocks_hi data.length
  rw [hm, List.range_succ, List.flatMap_append, List.length_append, flat_width (blockOf data) 33 m (fun j hj => by rw [block_len, part_whole _ _ (by omega)])]
  simp only [List.flatMap_cons, List.flatMap_nil, List.append_nil]
  rw [block_len, part_len]
  rcases m with _ | m
  · omega
  · have := blocks_lo data.length m (by omega)
    omega
theorem checkOf_in (k : Int) (xs : List Int) : 0 ≤ checkOf k xs ∧ checkOf k xs ≤ 16777215 := reg_lt (by omega) _
end
section
end
end

section
def idBytes (id : Int) : List Int := [id / 65536, id / 256 % 256, id % 256]
end

section
def medlBytes (m : Me) : List Int := idBytes m.id ++ (tabBytes m.nodes ++ (modeBytes m.modes ++ slotBytes m.slots))
def scheduleBytes (m : Me) : List Int × Int := if isMedl m = false then ([], 1) else (medlBytes m, 0)
def encodeImage (m : Me) : List Int × Int :=
  if isMedl m = false then ([], 1) else if 868 < (medlBytes m).length then ([], 3) else (image9 (medlBytes m), 0)
theorem idBytes_in {id : Int} (h : inRange 1 16777215 id = true) : ∀ y ∈ idBytes id, 0 ≤ y ∧ y ≤ 255 := by
  have := inR10.1 h
  intro y hy
  simp only [idBytes, List.mem_cons, List.not_mem_nil, or_false] at hy
  rcases hy with rfl | rfl | rfl <;> omega
theorem medlBytes_in {m : Me} (h : isMedl m = true) : ∀ y ∈ medlBytes m, 0 ≤ y ∧ y ≤ 255 := by
  have W := medl_iff.1 h
  intro y hy
  simp only [medlBytes, List.mem_append] at hy
  rcases hy with h | h | h | h
  · exact idBytes_in W.r1 y h
  · exact tabBytes_in W.r2 y h
  · exact modeBytes_in W.r3 y h
  · exact slotBytes_in W.r4 y h
theorem medlBytes_len {m : Me} (h : isMedl m = true) : 3 ≤ (medlBytes m).length ∧ (medlBytes m).length ≤ 1502 := by
  have W := medl_iff.1 h
  have h1 := tabBytes_len W.r2
  have h2 := modeBytes_len W.r3
  have h3 := slotBytes_len m.slots
  have h4 := (isSls_iff.1 W.r4).1
  simp only [medlBytes, List.length_append, idBytes, List.length_cons, List.length_nil]
  omega
theorem scheduleBytes_len (m : Me) : (scheduleBytes m).1.length ≤ 1048576 := by
  unfold scheduleBytes
  split
  · simp
  · rename_i h
    have := medlBytes_len (m := m) (by simpa using h)
    dsimp only
    omega
theorem encodeImage_len (m : Me) : (encodeImage m).1.length ≤ 1048576 := by
  unfold encodeImage
  repeat' split
  · simp
  · simp
  · rename_i h h2
    have := image_len (medlBytes m)
    have := blocks_31 (n := (medlBytes m).length) (by omega)
    dsimp only
    omega
end
end Go.Proofs.YtljdkckoelgkbaaGreat
