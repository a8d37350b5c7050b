/-
  A register fed with a byte and with a list of bytes by the table; CrcOfBytes on both sides.
  CrcTable on the specification's side.
  CrcTable on the program's side; AppendCrc on both sides.
  HasCrc on both sides.
  The laws' own Crc: made into the program's, compared; StandardCrc on both sides.
-/
import Derived.Test.YtbdfnkhmnglpbaaTwo
import Derived.Test.YtbdfnkhmnglpbaaReg
import Derived.Test.YtbdfnkhmnglpbaaOne
import Derived.Deep.RegionHeld3
import Derived.Deep.AppendLies
namespace Go.Proofs.Ytbdfnkhmnglpbaa
section
open Go.RowKit

theorem afterByte_any (p W : Nat) (g r : BitVec W) (v : Nat) (w : World) (h1 : 3 ≤ W) (h2 : W ≤ 24) (hc : CycTo g w p 256) (hv : v < 256) :
    Calls Try.prog 152 #[.pointer (some ⟨p, 0, none⟩), .int .i64 r.toNat, .int .i64 v] w fun e w' => e = .returned (.int .i64 ((fbs g r (bl (bitsOf (v : Int) 8))).toNat : Int)) ∧ ∃ q, w' = w.drewN q := by
  obtain ⟨hc0, -⟩ := hc.code
  have hp := pow40 W (by omega)
  have hr := reg_lt h2 r
  have hj := byte_index v hv r
  have hx := byte_xor (r := r) v hv h2
  have hlow := byte_low (r := r) h2
  have hstep := byte_step (g := g) (r := r) v
  obtain ⟨j, hjj⟩ : ∃ j, j = r.toNat * 256 / 2 ^ W ^^^ v := ⟨_, rfl⟩
  rw [← hjj] at hj hx hstep
  have hcell := hc.cell j hj
  rw [if_pos hj] at hcell
  have hfin : bits .xor .i64 (tabOf g j) (bits .and .i64 ((r.toNat : Int) * 256) ((2 : Int) ^ W - 1)) = ((fbs g r (bl (bitsOf (v : Int) 8))).toNat : Int) := by
    rw [hstep, hlow]; exact reg_xor h2 _ _
  obtain ⟨R, hR⟩ : ∃ R, R = (r.toNat : Int) := ⟨_, rfl⟩
  obtain ⟨T, hT⟩ : ∃ T, T = tabOf g j := ⟨_, rfl⟩
  obtain ⟨F, hF⟩ : ∃ F, F = ((fbs g r (bl (bitsOf (v : Int) 8))).toNat : Int) := ⟨_, rfl⟩
  rw [← hR] at hr hx hfin ⊢
  rw [← hT] at hcell hfin
  rw [← hF] at hfin ⊢
  obtain ⟨hr0, hr1⟩ := hr
  have hj1 : (j : Int) < 256 := by omega
  have HF := Lib.hid hfin; clear hfin hR hT hF hjj hlow hstep hc
  go_enter Try.func152, Try.ntmps152
  go_wp2
  go_quiet ((go_at_call 160; exact quiet_w (great_any _ _ h2)))
  go_wp2
  go_ret
  exact ⟨ret_int HF.out, _, rfl⟩

theorem flat_take (xs : List Int) (k : Nat) (hk : k < xs.length) : (xs.take (k + 1)).flatMap (bitsOf · 8) = (xs.take k).flatMap (bitsOf · 8) ++ bitsOf (xs.getD k 0) 8 := by
  rw [take_succ' xs k hk, List.flatMap_append]; simp
/-- What a method leaves that only reads: a number. -/
def ReadsInt (w : World) (n : Int) (e : Ending) (w' : World) : Prop := e = .returned (.int .i64 n) ∧ Below w.heap.size w w'
theorem afterBytes_any (p W : Nat) (g r : BitVec W) (ao : Option Addr) (n cap : Nat) (xs : List Int) (w : World) (h1 : 3 ≤ W) (h2 : W ≤ 24) (hc : CycTo g w p 256) (hr : Rd w ao n xs) (hn : n ≤ 1048576) (hbytes : ∀ x ∈ xs, 0 ≤ x ∧ x ≤ 255) :
    Calls Try.prog 123 #[.pointer (some ⟨p, 0, none⟩), .int .i64 r.toNat, .slice ao n cap] w (ReadsInt w (regOf g r (xs.flatMap (bitsOf · 8)))) := by
  obtain ⟨hlen, hat⟩ := hr
  have HL := Lib.hid hlen; clear hlen
  have HA := Lib.hid hat; clear hat
  have HZ := Lib.hid hbytes; clear hbytes
  have HC := Lib.hid hc; clear hc
  go_enter Try.func123, Try.ntmps123
  go_wp2
  go_loopw [1, 11] (fun v i wr => ∃ (k : Nat) (y : BitVec W) (q : Nat), k ≤ n ∧ i = .int .i64 k ∧ v = .int .i64 y.toNat ∧ Hid (fbs g r (bl ((xs.take k).flatMap (bitsOf · 8))) = y) ∧ wr = w.drewN q) (fun _ i _ => n - (intOf i).toNat)
  case atStart => exact ⟨0, r, 0, Nat.zero_le _, rfl, rfl, rfl, rfl⟩
  case round =>
    obtain ⟨k, y, q, hk, rfl, rfl, HY, rfl⟩ := hrel
    by_cases hlt : k < n
    · obtain ⟨b, off, rfl, hall⟩ := HA.out (by omega)
      have hck := hall k hlt
      clear HA hall
      have hkx : k < xs.length := by rw [HL.out]; exact hlt
      have hb0 := HZ.out (xs.getD k 0) (getD_mem' hkx)
      have hfin : fbs g r (bl ((xs.take (k + 1)).flatMap (bitsOf · 8))) = fbs g y (bl (bitsOf (xs.getD k 0) 8)) := by rw [flat_take xs k hkx, bl_append, fbs_append, HY.out]
      obtain ⟨x, hx⟩ : ∃ x, x = (xs.getD k 0).toNat := ⟨_, rfl⟩
      have hx1 : xs.getD k 0 = (x : Int) := by omega
      have hx2 : x < 256 := by omega
      rw [hx1] at hck hfin
      obtain ⟨z, hz⟩ : ∃ z, z = fbs g y (bl (bitsOf (x : Int) 8)) := ⟨_, rfl⟩
      rw [← hz] at hfin
      have HF := Lib.hid hfin; clear hfin hx hx1 hkx HZ hb0
      have HZZ := Lib.hid hz; clear hz
      go_wp2_with fail
      refine (afterByte_any p W g y x _ h1 h2 (show CycTo g (w.drewN q) p 256 from HC.out) hx2).mono ?_
      rintro e w' ⟨rfl, q', rfl⟩
      rw [← HZZ.out]
      go_wp2
      go_roundw
      case rel => exact ⟨k + 1, z, _, by omega, by go_num, rfl, HF.out, rfl⟩
      case measure => simp [intOf]; omega
    · have hkn : k = n := by omega
      subst hkn
      have hfin : (y.toNat : Int) = regOf g r (xs.flatMap (bitsOf · 8)) := by unfold regOf; rw [← HY.out, List.take_of_length_le (by rw [HL.out]; exact Nat.le_refl _)]
      have HF := Lib.hid hfin; clear hfin
      go_wp2
      go_ret
      exact ⟨ret_int HF.out, below_drewN' (Below.refl _ _) _⟩

theorem coy_code {wd p s : Int} {xs : List Int} (h : crcCode wd p s ≠ 0) : crcOfBytes wd p s xs = (0, crcCode wd p s) := by unfold crcOfBytes; rw [if_pos h]
theorem coy_3 {wd p s : Int} {xs : List Int} (h : crcCode wd p s = 0) (hb : isBytes xs = false) : crcOfBytes wd p s xs = (0, 3) := by unfold crcOfBytes; rw [if_neg (by simp [h]), if_pos hb]
theorem coy_0 {wd p s : Int} {xs : List Int} (h : crcCode wd p s = 0) (hb : isBytes xs = true) : crcOfBytes wd p s xs = (crcRaw wd p s (xs.flatMap (bitsOf · 8)), 0) := by unfold crcOfBytes; rw [if_neg (by simp [h]), if_neg (by simp [hb])]
theorem coy_err {wd p s : Int} {xs : List Int} (h : crcErr wd p s (isBytes xs) ≠ 0) : crcOfBytes wd p s xs = (0, crcErr wd p s (isBytes xs)) := by
  by_cases h1 : crcCode wd p s = 0
  · rcases hb : isBytes xs with _ | _
    · rw [coy_3 h1 hb, crcErr_3 h1]
    · rw [hb, crcErr_0 h1] at h; exact absurd rfl h
  · rw [coy_code h1, crcErr_code h1]
theorem crcErr_ok {wd p s : Int} {b : Bool} (h : crcErr wd p s b = 0) : crcCode wd p s = 0 ∧ b = true := by
  by_cases h1 : crcCode wd p s = 0
  · cases b
    · rw [crcErr_3 h1] at h; omega
    · exact ⟨h1, rfl⟩
  · rw [crcErr_code h1] at h; exact absurd h h1
theorem flat_bits (xs : List Int) : ∀ x ∈ xs.flatMap (bitsOf · 8), 0 ≤ x ∧ x ≤ 1 := by
  intro x hx
  obtain ⟨y, _, hy⟩ := List.mem_flatMap.1 hx
  exact bitsOf_bits y 8 x hy

end

section
open Go.RowKit

/-- 'append(out, x)' of one number, at a step of a region that draws its order. -/
theorem step_append_one {P : Program} {E T : Nat} {w : World} {ops : Array Oper} {o : Oper} {a : Act} {K : Act → World → Prop} {Q : Exit → Act → World → Prop} {E' : Prop} (hgd : o.guard = none) (s x : Operand)
    (ho : o.op = .call { callee := .builtin .append, args := #[s, x], argTypes := #[T, T] })
    (base : Nat) (ht : P.underlying T = some (.slice E)) (hi : Info64 P E)
    (v : Value) (xs : List Int) (hs : a.eval s = v) (hown : Own E w base v xs) (b : Nat) (y : Int) (c : Nat) (hx : a.eval x = .slice (some ⟨b, 0, none⟩) 1 c) (hc : w.cell? ⟨b, 0, none⟩ = some (.int .i64 y))
    (hlen : xs.length ≤ 4294967296) (hbase : base ≤ w.heap.size)
    (h : ∀ v' w', Own E w' base v' (xs ++ [y]) → Below base w w' → K (a.put o.dst v') w') : if Region.wanted o (yielded ops a.tmps) = true then Oper.wp P o a w K Q else E' := by
  obtain ⟨i0, hi, hz0, hz1, hz2⟩ := info_parts hi
  refine step_append_lies w hgd s x T ho base E i0 (.int .i64 0) 1 8 ht hi hz0 hz1 hz2 rfl (by decide) v xs.length _ hs hown ⟨b, 0, none⟩ 1 c [.int .i64 y] hx rfl ?_ ?_ (by decide) (by unfold maxLen; omega) (by omega) hbase w.heap.size rfl ?_
  · intro j u hj
    match j, hj with
    | 0, hj => simp at hj; subst hj; simpa [Addr.add] using hc
  · intro u hu; simp at hu; subst hu; rfl
  · intro g cap w' h1 h2 _ _
    refine h _ w' ?_ ((Below.refl _ _).grown h2 hbase fun k hk => (hown.block k hk).1)
    unfold Own
    simpa using h1
/-- A slice of one number in a block of its own. -/
theorem rd_oneC {w : World} {b : Nat} {x : Int} (hc : w.cell? ⟨b, 0, none⟩ = some (.int .i64 x)) : Rd w (some ⟨b, 0, none⟩) 1 [x] :=
  ⟨rfl, fun _ => ⟨b, 0, rfl, fun i hi => by
    have : i = 0 := by omega
    subst this; exact hc⟩⟩
theorem range_tab_succ {W : Nat} (g : BitVec W) (k : Nat) : (List.range (k + 1)).map (tabOf g) = (List.range k).map (tabOf g) ++ [tabOf g k] := by
  rw [List.range_succ, List.map_append]; rfl
theorem ct_1 {wd p : Int} (h : isCrc wd p = false) : crcTable wd p = ([], 1) := by unfold crcTable; rw [if_pos h]
theorem ct_0 {wd p : Int} (h : isCrc wd p = true) : crcTable wd p = (crcTab wd p 256, 0) := by unfold crcTable; rw [if_neg (by simp [h])]
theorem feed0_any (W : Nat) (g : BitVec W) (ao : Option Addr) (n cap : Nat) (xs : List Int) (w : World) (h1 : 3 ≤ W) (h2 : W ≤ 24) (hr : Rd w ao n xs) (hn : n ≤ 1048576) (hbits : ∀ x ∈ xs, 0 ≤ x ∧ x ≤ 1) :
    Calls Try.prog 124 #[.agg #[.int .i64 W, .int .i64 g.toNat], .int .i64 0, .slice ao n cap] w fun e w' => e = .returned (.int .i64 (regOf g 0#W xs)) ∧ Below w.heap.size w w' := by
  have h := feed_any W g 0#W ao n cap xs w h1 h2 hr hn hbits
  have e : (((0#W).toNat : Nat) : Int) = 0 := by simp
  rwa [e] at h

theorem bits1_any (ao : Option Addr) (cap : Nat) (k : Nat) (w : World) (hr : Rd w ao 1 [(k : Int)]) :
    Calls Try.prog 127 #[.slice ao 1 cap] w (Makes 2 w (bitsOf (k : Int) 8)) := by
  have h := l01Bits_any ao cap [(k : Int)] w hr (by simp)
  have e : (List.flatMap (bitsOf · 8) [(k : Int)]) = bitsOf (k : Int) 8 := by simp
  rw [e] at h
  exact h
end

section
open Go.RowKit

theorem CycTo.rd {W : Nat} {g : BitVec W} {w : World} {p : Nat} (h : CycTo g w p 256) : Rd w (some ⟨p, 2, none⟩) 256 ((List.range 256).map (tabOf g)) := by
  rw [← tabTo_all]
  refine ⟨tabTo_len _, fun _ => ⟨p, 2, rfl, fun i hi => ?_⟩⟩
  rw [cell_of_row w p (2 + i) _ _ (0, 0) h, cycCells_at _ _ _ _ (by rw [tabTo_len]; exact hi)]

theorem ac_err {wd p s : Int} {xs : List Int} (h : (crcOfBits wd p s xs).2 ≠ 0) : appendCrc wd p s xs = ([], (crcOfBits wd p s xs).2) := by unfold appendCrc; rw [if_pos h]
theorem ac_3 {wd p s : Int} {xs : List Int} (h : (crcOfBits wd p s xs).2 = 0) (h2 : 8192 < (xs.length : Int) + wd) : appendCrc wd p s xs = ([], 3) := by unfold appendCrc; rw [if_neg (by simp [h]), if_pos h2]
theorem ac_0 {wd p s : Int} {xs : List Int} (h : (crcOfBits wd p s xs).2 = 0) (h2 : ¬ 8192 < (xs.length : Int) + wd) : appendCrc wd p s xs = (xs ++ bitsOf (crcOfBits wd p s xs).1 wd.toNat, 0) := by unfold appendCrc; rw [if_neg (by simp [h]), if_neg h2]
/-- A check number without an error: the code, the seed and the list are valid. -/
theorem cob_get {wd p s : Int} {xs : List Int} (h : (crcOfBits wd p s xs).2 = 0) : ∃ (W : Nat) (g r : BitVec W), wd = (W : Int) ∧ 3 ≤ W ∧ W ≤ 24 ∧ p = (g.toNat : Int) ∧ g.getLsbD 0 = true ∧ s = (r.toNat : Int) ∧ isBits xs = true ∧ (crcOfBits wd p s xs).1 = regOf g r xs := by
  by_cases hc : crcCode wd p s = 0
  · rcases hb : isBits xs with _ | _
    · rw [cob_3 hc hb] at h; simp at h
    · have e := cob_0 hc hb
      obtain ⟨W, g, r, rfl, h1, h2, rfl, h3, rfl⟩ := crcCode_zero hc
      exact ⟨W, g, r, rfl, h1, h2, rfl, h3, rfl, rfl, by rw [e, crcRaw_eq]⟩
  · rw [cob_code hc] at h; exact absurd h hc
theorem appendCrc_len (wd p s : Int) (xs : List Int) : (appendCrc wd p s xs).1.length ≤ 8192 := by
  by_cases h : (crcOfBits wd p s xs).2 = 0
  · by_cases h2 : 8192 < (xs.length : Int) + wd
    · rw [ac_3 h h2]; simp
    · obtain ⟨W, g, r, rfl, h1, -⟩ := cob_get h
      rw [ac_0 h h2]
      simp only [List.length_append, bitsOf_len, Int.toNat_natCast]; omega
  · rw [ac_err h]; simp

end

section
open Go.RowKit

theorem hc_code {wd p s : Int} {xs : List Int} (h : crcCode wd p s ≠ 0) : hasCrc wd p s xs = false := by unfold hasCrc; rw [decide_eq_false h]; rfl
theorem hc_bits {wd p s : Int} {xs : List Int} (h : isBits xs = false) : hasCrc wd p s xs = false := by unfold hasCrc; rw [h]; simp
theorem hc_short {wd p s : Int} {xs : List Int} (h : ¬ wd ≤ (xs.length : Int)) : hasCrc wd p s xs = false := by unfold hasCrc; rw [decide_eq_false h]; simp
theorem hc_raw {wd p s : Int} {xs : List Int} (h : crcCode wd p s = 0) (hb : isBits xs = true) (hl : wd ≤ (xs.length : Int)) : hasCrc wd p s xs = decide (crcRaw wd p s xs = 0) := by
  unfold hasCrc; rw [decide_eq_true h, hb, decide_eq_true hl]; simp
theorem hc_err {wd p s : Int} {xs : List Int} (h : crcErr wd p s (isBits xs) ≠ 0) : hasCrc wd p s xs = false := by
  by_cases h1 : crcCode wd p s = 0
  · rcases hb : isBits xs with _ | _
    · exact hc_bits hb
    · rw [hb, crcErr_0 h1] at h; exact absurd rfl h
  · exact hc_code h1
theorem reg_split {W : Nat} (g r : BitVec W) (hg : g.getLsbD 0 = true) (xs : List Int) (m : Nat) (hl : xs.length = m + W) (hb : ∀ x ∈ xs, 0 ≤ x ∧ x ≤ 1) : (regOf g r (xs.take m) == numOf (xs.drop m)) = decide (regOf g r xs = 0) := by
  have h := fbs_zero_iff (r := fbs g r (bl (xs.take m))) hg (xs.drop m) (by rw [List.length_drop]; omega) (fun x hx => hb x (List.mem_of_mem_drop hx))
  rw [← fbs_append, ← bl_append, List.take_append_drop] at h
  rw [beq_dec, decide_eq_decide]
  unfold regOf
  rw [← h]
  constructor
  · intro h; rw [h]; simp
  · intro h
    apply BitVec.eq_of_toNat_eq
    rw [show (0#W).toNat = 0 from by simp]; omega

end

section
open Go.RowKit

/-- A struct that the call laid at its start reads as it was. -/
theorem crc_kept {w w' : World} {wd p : Int} {T : Nat} (h : Below (w.alloc (.cells #[.int .i64 wd, .int .i64 p] T)).heap.size (w.alloc (.cells #[.int .i64 wd, .int .i64 p] T)) w') :
    w'.cell? ⟨w.heap.size, 0, none⟩ = some (.int .i64 wd) ∧ w'.cell? ⟨w.heap.size, 1, none⟩ = some (.int .i64 p) :=
  ⟨(h.cell (p := ⟨w.heap.size, 0, none⟩) (by simp)).trans (struct_cells wd p T).1, (h.cell (p := ⟨w.heap.size, 1, none⟩) (by simp)).trans (struct_cells wd p T).2⟩
theorem crcTable_len (wd p : Int) : (crcTable wd p).1.length ≤ 8192 := by
  rcases h : isCrc wd p with _ | _
  · rw [ct_1 h]; simp
  · rw [ct_0 h]; unfold crcTab; rw [List.length_map, List.length_range]; omega
/-- A struct of two numbers handed back. -/
def GivesCrc (w : World) (wd p : Int) (e : Ending) (w' : World) : Prop := e = .returned (.agg #[.int .i64 wd, .int .i64 p]) ∧ Below w.heap.size w w'
theorem sStandardCrc_any (w : World) : Calls Try.prog 125 #[] w (GivesCrc w 24 6122955) := by
  go_enter Try.func125, Try.ntmps125
  go_wp2
  exact bodyPost_ret (v := .agg #[.int .i64 24, .int .i64 6122955]) (by simp [results, Try.results125, go_sem]) rfl ⟨rfl, (Below.refl _ _).alloc (Nat.le_refl _) _⟩
theorem standardCrc_any (w : World) : Calls Try.prog 120 #[] w (GivesCrc w 24 6122955) := by
  go_enter Try.func120, Try.ntmps120
  go_wp2
  exact bodyPost_ret (v := .agg #[.int .i64 24, .int .i64 6122955]) (by simp [results, Try.results120, go_sem]) rfl ⟨rfl, (Below.refl _ _).alloc (Nat.le_refl _) _⟩
end
end Go.Proofs.Ytbdfnkhmnglpbaa
