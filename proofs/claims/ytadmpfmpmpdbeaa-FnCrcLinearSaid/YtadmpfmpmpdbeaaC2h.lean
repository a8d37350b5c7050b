/-
  A register fed with a byte and with a list of bytes by the table; CrcOfBytes on both sides.
-/
import Derived.Test.YtadmpfmpmpdbeaaC2g
import Derived.Test.YtadmpfmpmpdbeaaCrc2
import Derived.Test.YtadmpfmpmpdbeaaC1c
import Derived.Deep.RegionHeld3
namespace Go.Proofs.Ytadmpfmpmpdbeaa
open Go.RowKit

theorem afterByte_any (p W : Nat) (g r : BitVec W) (v : Nat) (w : World) (h1 : 3 ≤ W) (h2 : W ≤ 24) (hc : CycTo g w p 256) (hv : v < 256) :
    Calls Try.prog 76 #[.pointer (some ⟨p, 0, none⟩), .int .i64 r.toNat, .int .i64 v] w fun e w' => e = .returned (.int .i64 ((fbs g r (bl (bitsOf (v : Int) 8))).toNat : Int)) ∧ ∃ q, w' = w.drewN q := by
  obtain ⟨hc0, -⟩ := hc.code
  have hp := pow40 W (by omega)
  have hr := reg_lt h2 r
  have hj := byte_index v hv r
  have hx := byte_xor (r := r) v hv h2
  have hlow := byte_low (r := r) h2
  have hstep := byte_step (g := g) (r := r) v
  obtain ⟨j, hjj⟩ : ∃ j, j = r.toNat * 256 / 2 ^ W ^^^ v := ⟨_, rfl⟩
  rw [← hjj] at hj hx hstep
  have hcell := hc.cell j hj
  rw [if_pos hj] at hcell
  have hfin : bits .xor .i64 (tabOf g j) (bits .and .i64 ((r.toNat : Int) * 256) ((2 : Int) ^ W - 1)) = ((fbs g r (bl (bitsOf (v : Int) 8))).toNat : Int) := by
    rw [hstep, hlow]; exact reg_xor h2 _ _
  obtain ⟨R, hR⟩ : ∃ R, R = (r.toNat : Int) := ⟨_, rfl⟩
  obtain ⟨T, hT⟩ : ∃ T, T = tabOf g j := ⟨_, rfl⟩
  obtain ⟨F, hF⟩ : ∃ F, F = ((fbs g r (bl (bitsOf (v : Int) 8))).toNat : Int) := ⟨_, rfl⟩
  rw [← hR] at hr hx hfin ⊢
  rw [← hT] at hcell hfin
  rw [← hF] at hfin ⊢
  obtain ⟨hr0, hr1⟩ := hr
  have hj1 : (j : Int) < 256 := by omega
  have HF := Lib.hid hfin; clear hfin hR hT hF hjj hlow hstep hc
  go_enter Try.func76, Try.ntmps76
  go_wp2
  go_quiet ((go_at_call 63; exact quiet_w (great_any _ _ h2)))
  go_wp2
  go_ret
  exact ⟨ret_int HF.out, _, rfl⟩

theorem flat_take (xs : List Int) (k : Nat) (hk : k < xs.length) : (xs.take (k + 1)).flatMap (bitsOf · 8) = (xs.take k).flatMap (bitsOf · 8) ++ bitsOf (xs.getD k 0) 8 := by
  rw [take_succ' xs k hk, List.flatMap_append]; simp
/-- What a method leaves that only reads: a number. -/
def ReadsInt (w : World) (n : Int) (e : Ending) (w' : World) : Prop := e = .returned (.int .i64 n) ∧ Below w.heap.size w w'
theorem afterBytes_any (p W : Nat) (g r : BitVec W) (ao : Option Addr) (n cap : Nat) (xs : List Int) (w : World) (h1 : 3 ≤ W) (h2 : W ≤ 24) (hc : CycTo g w p 256) (hr : Rd w ao n xs) (hn : n ≤ 1048576) (hbytes : ∀ x ∈ xs, 0 ≤ x ∧ x ≤ 255) :
    Calls Try.prog 57 #[.pointer (some ⟨p, 0, none⟩), .int .i64 r.toNat, .slice ao n cap] w (ReadsInt w (regOf g r (xs.flatMap (bitsOf · 8)))) := by
  obtain ⟨hlen, hat⟩ := hr
  have HL := Lib.hid hlen; clear hlen
  have HA := Lib.hid hat; clear hat
  have HZ := Lib.hid hbytes; clear hbytes
  have HC := Lib.hid hc; clear hc
  go_enter Try.func57, Try.ntmps57
  go_wp2
  go_loopw [1, 11] (fun v i wr => ∃ (k : Nat) (y : BitVec W) (q : Nat), k ≤ n ∧ i = .int .i64 k ∧ v = .int .i64 y.toNat ∧ Hid (fbs g r (bl ((xs.take k).flatMap (bitsOf · 8))) = y) ∧ wr = w.drewN q) (fun _ i _ => n - (intOf i).toNat)
  case atStart => exact ⟨0, r, 0, Nat.zero_le _, rfl, rfl, rfl, rfl⟩
  case round =>
    obtain ⟨k, y, q, hk, rfl, rfl, HY, rfl⟩ := hrel
    by_cases hlt : k < n
    · obtain ⟨b, off, rfl, hall⟩ := HA.out (by omega)
      have hck := hall k hlt
      clear HA hall
      have hkx : k < xs.length := by rw [HL.out]; exact hlt
      have hb0 := HZ.out (xs.getD k 0) (getD_mem' hkx)
      have hfin : fbs g r (bl ((xs.take (k + 1)).flatMap (bitsOf · 8))) = fbs g y (bl (bitsOf (xs.getD k 0) 8)) := by rw [flat_take xs k hkx, bl_append, fbs_append, HY.out]
      obtain ⟨x, hx⟩ : ∃ x, x = (xs.getD k 0).toNat := ⟨_, rfl⟩
      have hx1 : xs.getD k 0 = (x : Int) := by omega
      have hx2 : x < 256 := by omega
      rw [hx1] at hck hfin
      obtain ⟨z, hz⟩ : ∃ z, z = fbs g y (bl (bitsOf (x : Int) 8)) := ⟨_, rfl⟩
      rw [← hz] at hfin
      have HF := Lib.hid hfin; clear hfin hx hx1 hkx HZ hb0
      have HZZ := Lib.hid hz; clear hz
      go_wp2_with fail
      refine (afterByte_any p W g y x _ h1 h2 (show CycTo g (w.drewN q) p 256 from HC.out) hx2).mono ?_
      rintro e w' ⟨rfl, q', rfl⟩
      rw [← HZZ.out]
      go_wp2
      go_roundw
      case rel => exact ⟨k + 1, z, _, by omega, by go_num, rfl, HF.out, rfl⟩
      case measure => simp [intOf]; omega
    · have hkn : k = n := by omega
      subst hkn
      have hfin : (y.toNat : Int) = regOf g r (xs.flatMap (bitsOf · 8)) := by unfold regOf; rw [← HY.out, List.take_of_length_le (by rw [HL.out]; exact Nat.le_refl _)]
      have HF := Lib.hid hfin; clear hfin
      go_wp2
      go_ret
      exact ⟨ret_int HF.out, below_drewN' (Below.refl _ _) _⟩

theorem coy_code {wd p s : Int} {xs : List Int} (h : crcCode wd p s ≠ 0) : crcOfBytes wd p s xs = (0, crcCode wd p s) := by unfold crcOfBytes; rw [if_pos h]
theorem coy_3 {wd p s : Int} {xs : List Int} (h : crcCode wd p s = 0) (hb : isBytes xs = false) : crcOfBytes wd p s xs = (0, 3) := by unfold crcOfBytes; rw [if_neg (by simp [h]), if_pos hb]
theorem coy_0 {wd p s : Int} {xs : List Int} (h : crcCode wd p s = 0) (hb : isBytes xs = true) : crcOfBytes wd p s xs = (crcRaw wd p s (xs.flatMap (bitsOf · 8)), 0) := by unfold crcOfBytes; rw [if_neg (by simp [h]), if_neg (by simp [hb])]
theorem coy_err {wd p s : Int} {xs : List Int} (h : crcErr wd p s (isBytes xs) ≠ 0) : crcOfBytes wd p s xs = (0, crcErr wd p s (isBytes xs)) := by
  by_cases h1 : crcCode wd p s = 0
  · rcases hb : isBytes xs with _ | _
    · rw [coy_3 h1 hb, crcErr_3 h1]
    · rw [hb, crcErr_0 h1] at h; exact absurd rfl h
  · rw [coy_code h1, crcErr_code h1]
theorem crcErr_ok {wd p s : Int} {b : Bool} (h : crcErr wd p s b = 0) : crcCode wd p s = 0 ∧ b = true := by
  by_cases h1 : crcCode wd p s = 0
  · cases b
    · rw [crcErr_3 h1] at h; omega
    · exact ⟨h1, rfl⟩
  · rw [crcErr_code h1] at h; exact absurd h h1
theorem flat_bits (xs : List Int) : ∀ x ∈ xs.flatMap (bitsOf · 8), 0 ≤ x ∧ x ≤ 1 := by
  intro x hx
  obtain ⟨y, _, hy⟩ := List.mem_flatMap.1 hx
  exact bitsOf_bits y 8 x hy

theorem crcOfBytes_any (wd p s : Int) (ao : Option Addr) (cap : Nat) (xs : List Int) (w : World) (hr : Rd w ao xs.length xs) (hn : xs.length ≤ 1048576) :
    Calls Try.prog 18 #[.agg #[.int .i64 wd, .int .i64 p], .int .i64 s, .slice ao xs.length cap] w fun e w' =>
      e = .returned (.tuple #[.int .i64 (crcOfBytes wd p s xs).1, .int .i64 (crcOfBytes wd p s xs).2]) ∧ Below w.heap.size w w' := by
  have hb0 : Below w.heap.size w (w.alloc (.cells #[.int .i64 wd, .int .i64 p] 25)) := (Below.refl _ _).alloc (Nat.le_refl _) _
  have hsc := struct_cells (w := w) wd p 25
  have HB := Lib.hid hb0.drew; clear hb0
  have HR := Lib.hid hr; clear hr
  by_cases he : crcErr wd p s (isBytes xs) = 0
  · obtain ⟨hc, hbt⟩ := crcErr_ok he
    rw [coy_0 hc hbt]
    have hbytes := (isBytes_iff.1 hbt).2
    have HZ := Lib.hid hbytes; clear hbytes
    have HE := Lib.hid he; clear he
    obtain ⟨W, g, r, rfl, h1, h2, rfl, h3, rfl⟩ := crcCode_zero hc
    rw [crcRaw_eq]
    clear hbt hc
    have HS := Lib.hid hsc; clear hsc
    go_enter Try.func18, Try.ntmps18
    go_wp2
    generalize World.alloc w (.cells #[.int .i64 W, .int .i64 g.toNat] 25) = w0 at HS HB ⊢
    have hsc := HS.out
    obtain ⟨hsc0, hsc1⟩ := hsc
    go_still_tail 4, (by kernel_rfl)
    still_call (still_w (isBytes_any _ _ _ _ _ (HR.out.below HB.out) (by omega)))
    refine wpStill_nil ?_
    change wpList _ _ _ _ _ w0.drew
    go_wp2_with fail
    refine (crcErr_any _ _ _ _ _).mono ?_
    rintro e w1 ⟨rfl, b1⟩
    rw [HE.out]
    have b2 := below_two HB.out b1
    have hc0 := (b1.cell (p := ⟨w.heap.size, 0, none⟩) (World.block_lt_of_cell? _ _ hsc0)).trans hsc0
    have hc1 := (b1.cell (p := ⟨w.heap.size, 1, none⟩) (World.block_lt_of_cell? _ _ hsc1)).trans hsc1
    go_wp2_with fail
    refine (newCode_any W g _ h1 h2).mono ?_
    rintro e w2 ⟨p2, rfl, hcy, -, b3⟩
    have b4 := below_two b2 b3
    have HC := Lib.hid hcy; clear hcy
    go_wp2_with fail
    refine (afterBytes_any p2 W g r _ _ _ xs _ h1 h2 HC.out (HR.out.below b4) hn HZ.out).mono ?_
    rintro e w3 ⟨rfl, b5⟩
    go_wp2
    go_ret2
    exact ⟨rfl, below_two b4 b5⟩
  · rw [coy_err he]
    have t1 : (crcErr wd p s (isBytes xs) == 0) = false := by simpa using he
    have t2 : (crcErr wd p s (isBytes xs) != 0) = true := by simpa using he
    obtain ⟨q, hq⟩ : ∃ q, q = crcErr wd p s (isBytes xs) := ⟨_, rfl⟩
    rw [← hq] at t1 t2 ⊢
    have HQ := Lib.hid hq; clear hq he
    have HS := Lib.hid hsc; clear hsc
    go_enter Try.func18, Try.ntmps18
    go_wp2
    generalize World.alloc w (.cells #[.int .i64 wd, .int .i64 p] 25) = w0 at HS HB ⊢
    have hsc := HS.out
    obtain ⟨hsc0, hsc1⟩ := hsc
    go_still_tail 4, (by kernel_rfl)
    still_call (still_w (isBytes_any _ _ _ _ _ (HR.out.below HB.out) (by omega)))
    refine wpStill_nil ?_
    change wpList _ _ _ _ _ w0.drew
    go_wp2_with fail
    refine (crcErr_any _ _ _ _ _).mono ?_
    rintro e w1 ⟨rfl, b1⟩
    rw [← HQ.out]
    have b2 := below_two HB.out b1
    go_wp2
    go_ret2
    exact ⟨rfl, b2⟩
theorem sCrcOfBytes_any (wd p s : Int) (ao : Option Addr) (cap : Nat) (xs : List Int) (w : World) (hr : Rd w ao xs.length xs) (hn : xs.length ≤ 1048576) :
    Calls Try.prog 19 #[.agg #[.int .i64 wd, .int .i64 p], .int .i64 s, .slice ao xs.length cap] w fun e w' =>
      e = .returned (.tuple #[.int .i64 (crcOfBytes wd p s xs).1, .int .i64 (crcOfBytes wd p s xs).2]) ∧ Below w.heap.size w w' := by
  have hb0 : Below w.heap.size w (w.alloc (.cells #[.int .i64 wd, .int .i64 p] 25)) := (Below.refl _ _).alloc (Nat.le_refl _) _
  have HB := Lib.hid hb0; clear hb0
  have HR := Lib.hid hr; clear hr
  by_cases hc : crcCode wd p s = 0
  · have hsc := struct_cells (w := w) wd p 25
    rcases hbt : isBytes xs with _ | _
    · rw [coy_3 hc hbt]
      have HC := Lib.hid hc; clear hc
      have HI := Lib.hid hbt; clear hbt
      clear hsc
      go_enter Try.func19, Try.ntmps19
      go_wp2_with fail
      refine (code_any _ _ _ _).mono ?_
      rintro e w1 ⟨rfl, b1⟩
      rw [HC.out]
      have b2 := below_two HB.out b1
      go_wp2_with fail
      refine (sIsBytes_any _ _ _ _ _ (HR.out.below b2) (by omega)).mono ?_
      rintro e w' ⟨rfl, rfl⟩
      rw [HI.out]
      go_wp2
      go_ret2
      exact ⟨rfl, b2⟩
    · rw [coy_0 hc hbt]
      have hc0 := hc
      obtain ⟨W, g, r, rfl, h1, h2, rfl, h3, rfl⟩ := crcCode_zero hc
      rw [crcRaw_eq]
      have hbl := (isBytes_iff.1 hbt).1
      have hfl := flat_len xs
      have HC := Lib.hid hc; clear hc hc0
      have HI := Lib.hid hbt; clear hbt
      have HS := Lib.hid hsc; clear hsc
      have HZ := Lib.hid (flat_bits xs)
      obtain ⟨ys, hys⟩ : ∃ ys, ys = xs.flatMap (bitsOf · 8) := ⟨_, rfl⟩
      rw [← hys] at hfl HZ ⊢
      have HY := Lib.hid hys; clear hys
      have hyl : ys.length ≤ 1048576 := by omega
      have HFL := Lib.hid hfl; clear hfl
      go_enter Try.func19, Try.ntmps19
      go_wp2_with fail
      refine (code_any _ _ _ _).mono ?_
      rintro e w1 ⟨rfl, b1⟩
      rw [HC.out]
      have b2 := below_two HB.out b1
      have hc0 := (b1.cell (p := ⟨w.heap.size, 0, none⟩) (by simp)).trans HS.out.1
      have hc1 := (b1.cell (p := ⟨w.heap.size, 1, none⟩) (by simp)).trans HS.out.2
      go_wp2_with fail
      refine (sIsBytes_any _ _ _ _ _ (HR.out.below b2) (by omega)).mono ?_
      rintro e w' ⟨rfl, rfl⟩
      rw [HI.out]
      have b2d := b2.drew
      have hlt : w.heap.size < w1.heap.size := World.block_lt_of_cell? _ _ hc0
      have hd0 : w1.drew.cell? ⟨w.heap.size, 0, none⟩ = some (.int .i64 W) := hc0
      have hd1 : w1.drew.cell? ⟨w.heap.size, 1, none⟩ = some (.int .i64 g.toNat) := hc1
      have HD0 := Lib.hid hd0; clear hd0
      have HD1 := Lib.hid hd1; clear hd1
      go_wp2
      go_region_held3 (fun w' => w'.cell? ⟨w.heap.size, 0, none⟩ = some (.int .i64 W) ∧ w'.cell? ⟨w.heap.size, 1, none⟩ = some (.int .i64 g.toNat))
        (first | exact ⟨HD0.out, HD1.out⟩ | exact ⟨HE0.out, HE1.out⟩ | exact ⟨HF0.out, HF1.out⟩)
        (first
          | (go_at_call 61; refine (l01Bits_any _ _ xs _ (HR.out.below b2d) hn).mono ?_; rintro e w3 m3; rw [← HY.out] at m3; obtain ⟨p3, c3, rfl, o3, r3, b3⟩ := m3.get; have HE0 := Lib.hid ((b3.cell (p := ⟨w.heap.size, 0, none⟩) hlt).trans HD0.out); have HE1 := Lib.hid ((b3.cell (p := ⟨w.heap.size, 1, none⟩) hlt).trans HD1.out); have HR3 := Lib.hid r3; clear r3 o3 m3)
          | (go_at_call 60; refine (feed_any W g r _ _ _ ys _ h1 h2 HR3.out hyl HZ.out).mono ?_; rintro e w4 ⟨rfl, b4⟩; have HF0 := Lib.hid ((b4.cell (p := ⟨w.heap.size, 0, none⟩) (Nat.lt_of_lt_of_le hlt b3.size)).trans HE0.out); have HF1 := Lib.hid ((b4.cell (p := ⟨w.heap.size, 1, none⟩) (Nat.lt_of_lt_of_le hlt b3.size)).trans HE1.out)))
      go_wp2
      go_ret2
      exact ⟨rfl, below_two (below_two b2d b3) b4⟩
  · rw [coy_code hc]
    have t1 : (crcCode wd p s == 0) = false := by simpa using hc
    have t2 : (crcCode wd p s != 0) = true := by simpa using hc
    obtain ⟨q, hq⟩ : ∃ q, q = crcCode wd p s := ⟨_, rfl⟩
    rw [← hq] at t1 t2 ⊢
    have HQ := Lib.hid hq; clear hq hc
    go_enter Try.func19, Try.ntmps19
    go_wp2_with fail
    refine (code_any _ _ _ _).mono ?_
    rintro e w1 ⟨rfl, b1⟩
    rw [← HQ.out]
    have b2 := below_two HB.out b1
    go_wp2
    go_ret2
    exact ⟨rfl, b2⟩
end Go.Proofs.Ytadmpfmpmpdbeaa
