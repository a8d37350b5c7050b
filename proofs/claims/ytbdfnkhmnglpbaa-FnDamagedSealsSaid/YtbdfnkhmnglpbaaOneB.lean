/-
  BitsToBytes, on both sides.
  FlipBits and DifferingBits, on both sides.
  FlipBits and DifferingBits, on both sides (the loops that write).
  DifferingBits, on both sides.
  BitsText and ReadBits, on both sides.
-/
import Derived.Test.YtbdfnkhmnglpbaaOne
import Derived.Test.YtbdfnkhmnglpbaaBase
import Derived.BigRegion
namespace Go.Proofs.Ytbdfnkhmnglpbaa
section
open Go.RowKit

theorem bytesTo_len (xs : List Int) (j : Nat) : (bytesTo xs j).length = j := by simp [bytesTo]
theorem bytesTo_succ (xs : List Int) (j : Nat) : bytesTo xs (j + 1) = bytesTo xs j ++ [numOf ((xs.drop (8 * j)).take 8)] := by simp [bytesTo, List.range_succ]
theorem bytesTo_getD (xs : List Int) (m k : Nat) (h : k < m) : (bytesTo xs m).getD k 0 = numOf ((xs.drop (8 * k)).take 8) := by
  simp [bytesTo, List.getD, h]
theorem bi_1 {xs : List Int} (h : isBits xs = false) : bitsToBytes xs = ([], 1) := by simp [bitsToBytes, h]
theorem bi_5 {xs : List Int} (h : isBits xs = true) (h2 : xs.length % 8 ≠ 0) : bitsToBytes xs = ([], 5) := by
  unfold bitsToBytes; rw [if_neg (by simp [h]), if_pos h2]
theorem bi_0 {xs : List Int} (h : isBits xs = true) (h2 : xs.length % 8 = 0) : bitsToBytes xs = (bytesTo xs (xs.length / 8), 0) := by
  unfold bitsToBytes; rw [if_neg (by simp [h]), if_neg (by omega)]

theorem bitsToBytes_any (ao : Option Addr) (cap : Nat) (xs : List Int) (w : World) (hr : Rd w ao xs.length xs) (hn : xs.length ≤ 1048576) (hcap : xs.length ≤ cap) :
    Calls Try.prog 34 #[.slice ao xs.length cap] w (Makes2 2 w (bitsToBytes xs).1 (bitsToBytes xs).2) := by
  by_cases hb : isBits xs = true
  · have hbits := (isBits_iff.1 hb).2
    have HZ := Lib.hid hbits; clear hbits
    by_cases h8 : xs.length % 8 = 0
    · rw [bi_0 hb h8]
      have HB := Lib.hid hb; clear hb
      obtain ⟨m, hm⟩ : ∃ m, xs.length = 8 * m := ⟨xs.length / 8, by omega⟩
      have hm8 : xs.length / 8 = m := by omega
      rw [hm8]
      have hyl := bytesTo_len xs m
      have HYL := Lib.hid hyl; clear hyl
      have hyg := fun k (h : k < m) => bytesTo_getD xs m k h
      have HYG := Lib.hid hyg; clear hyg
      obtain ⟨ys, hys⟩ : ∃ ys, ys = bytesTo xs m := ⟨_, rfl⟩
      rw [← hys] at HYL HYG ⊢
      clear hys
      have hmod : ((xs.length : Int) % 8 != 0) = false := by simp; omega
      have hquo : (xs.length : Int) / 8 = (m : Int) := by omega
      rw [hm] at hmod hquo hr hcap
      have hm1 : m ≤ 131072 := by omega
      rw [hm]
      have HM := Lib.hid hm; clear hm hm8 h8
      rw [show ((8 * m : Nat) : Int) = 8 * (m : Int) from by omega] at hmod hquo
      go_enter Try.func34, Try.ntmps34
      go_wp2_with (first
        | (go_at_call 95; refine (isBits_any _ _ _ _ _ hr (by omega)).mono ?_; rintro e w' ⟨rfl, rfl⟩; rw [HB.out])
        | (at_make; refine make_cap _ rfl _ _ rfl w.heap.size Try.underlying26 info64 _ _ _ _ m m rfl rfl rfl rfl (Nat.le_refl _) (by omega) (Nat.le_refl _) ?_; intro w1 o1 b1))
      have o1' : Own 2 w1 w.heap.size (.slice (some ⟨w.heap.size, 0, none⟩) m m) (fillTo ys 0) := by rw [fillTo_zero, HYL.out]; exact o1
      clear o1
      go_loopw [19] (fun i wr => ∃ k : Nat, k ≤ m ∧ i = .int .i64 k ∧ Own 2 wr w.heap.size (.slice (some ⟨w.heap.size, 0, none⟩) m m) (fillTo ys k) ∧ Below w.heap.size w wr) (fun i _ => m - (intOf i).toNat)
      case atStart => exact ⟨0, Nat.zero_le _, rfl, o1', b1⟩
      case round =>
        clear o1' b1 hmod hquo
        obtain ⟨k, hk, rfl, hown, hbel⟩ := hrel
        by_cases hlt : k < m
        · have hrr := (hr.below hbel).slice (a := k * 8) (k := 8) (by omega)
          have hky : k < ys.length := by rw [HYL.out]; exact hlt
          have hfl := fillTo_len ys k (by omega)
          obtain ⟨hdst, hfz, hown', hbel'⟩ := own_store hown (hfl.trans HYL.out) hlt (ys.getD k 0)
          have hyk := HYG.out k hlt
          rw [fillTo_succ ys k hky] at hown'
          obtain ⟨y, hy⟩ : ∃ y, y = ys.getD k 0 := ⟨_, rfl⟩
          obtain ⟨z, hz⟩ : ∃ z, z = (fillTo ys k).getD k 0 := ⟨_, rfl⟩
          rw [← hy] at hown' hbel' hyk
          rw [← hz] at hdst
          rw [Nat.mul_comm] at hyk
          have HYK := Lib.hid hyk; clear hyk hy hz hfl hky
          have HO := Lib.hid hown'; clear hown' hown
          have HBE := Lib.hid (hbel.trans hbel'); clear hbel hbel'
          have hne : ¬ cap = k * 8 := by omega
          have h8 : (k + 1) * 8 - k * 8 = 8 := by omega
          have H8 := Lib.hid h8; clear h8
          go_wp2_with fail
          rw [H8.out]
          refine (numberOf_any _ _ _ _ _ hrr (by omega) fun x hx => HZ.out x (List.mem_of_mem_drop (List.mem_of_mem_take hx))).mono ?_
          rintro e w' ⟨rfl, rfl⟩
          rw [← HYK.out]
          go_wp2
          go_roundw
          case rel => exact ⟨k + 1, by omega, by go_num, HO.out, HBE.out⟩
          case measure => simp [intOf]; omega
        · have hkn : k = m := by omega
          subst hkn
          have h := hown
          rw [show fillTo ys k = ys from by have := fillTo_all ys; rwa [HYL.out] at this] at h
          have HO := Lib.hid h; clear hown h
          go_wp2
          go_ret2
          exact ⟨_, rfl, HO.out, hbel⟩
    · rw [bi_5 hb h8]
      have HB := Lib.hid hb; clear hb
      have hmod : ((xs.length : Int) % 8 != 0) = true := by simp; omega
      go_enter Try.func34, Try.ntmps34
      go_wp2_with (go_at_call 95; refine (isBits_any _ _ _ _ _ hr (by omega)).mono ?_; rintro e w' ⟨rfl, rfl⟩; rw [HB.out])
      go_ret2
      exact ⟨_, rfl, Own.nil_, Below.refl _ _⟩
  · have hb' : isBits xs = false := by simpa using hb
    rw [bi_1 hb']
    have HB := Lib.hid hb'; clear hb hb'
    go_enter Try.func34, Try.ntmps34
    go_wp2_with (go_at_call 95; refine (isBits_any _ _ _ _ _ hr (by omega)).mono ?_; rintro e w' ⟨rfl, rfl⟩; rw [HB.out])
    go_ret2
    exact ⟨_, rfl, Own.nil_, Below.refl _ _⟩

/-- spec.l01Bytes. -/
theorem l01Bytes_any (ao : Option Addr) (cap : Nat) (xs : List Int) (w : World) (hr : Rd w ao xs.length xs) (hn : xs.length ≤ 1048576) (hbits : ∀ x ∈ xs, 0 ≤ x ∧ x ≤ 1) :
    Calls Try.prog 128 #[.slice ao xs.length cap] w (Makes 2 w (bytesTo xs (xs.length / 8))) := by
  have HZ := Lib.hid hbits; clear hbits
  go_enter Try.func128, Try.ntmps128
  go_wp2
  go_loopw [3, 4] (fun v i wr => ∃ k : Nat, 8 * k ≤ xs.length ∧ i = .int .i64 (8 * (k : Int)) ∧ Own 2 wr w.heap.size v (bytesTo xs k) ∧ Below w.heap.size w wr) (fun _ i _ => xs.length - (intOf i).toNat)
  case atStart => exact ⟨0, Nat.zero_le _, rfl, Own.of_alloc_nil (Nat.le_refl _), (Below.refl _ _).alloc (Nat.le_refl _) _⟩
  case round =>
    obtain ⟨k, hk, rfl, hown, hbel⟩ := hrel
    by_cases hlt : 8 * k + 8 ≤ xs.length
    · have hyl := bytesTo_len xs k
      have hl2 : (bytesTo xs k).length ≤ 4294967296 := by rw [hyl]; omega
      have hbs := hbel.size
      have hrr := hr.below hbel
      have hfs := bytesTo_succ xs k
      have HFS := Lib.hid hfs; clear hfs hyl
      obtain ⟨q, hq⟩ : ∃ q, q = numOf ((xs.drop (8 * k)).take 8) := ⟨_, rfl⟩
      have HQ := Lib.hid hq; clear hq
      have HO := Lib.hid hown; clear hown
      have HBE := Lib.hid hbel; clear hbel
      go_wp2_with (first
        | (go_at_call 154; refine (l01Number_any _ _ _ xs (8 * k) 8 _ hrr (by omega) (by omega) (by omega) HZ.out).mono ?_; rintro e w' ⟨rfl, rfl⟩; rw [← HQ.out])
        | (at_builtin; refine append_one _ rfl (.tmp 13) (.tmp 17) rfl w.heap.size Try.underlying26 info64 _ _ rfl (HO.out.below ((Below.refl _ _).alloc (Nat.le_refl _) _)) _ _ _ rfl (new_cell rfl) hl2 (by simp; omega) ?_; intro v' w' hown hbel))
      go_roundw
      case rel => exact ⟨k + 1, by omega, by go_num, by rw [HFS.out, ← HQ.out]; exact hown, (HBE.out.alloc (by omega) _).trans hbel⟩
      case measure => simp [intOf]; omega
    · have hkn : xs.length / 8 = k := by omega
      have HO := Lib.hid hown; clear hown
      have HK := Lib.hid hkn; clear hkn
      go_wp2
      go_ret
      exact ⟨_, rfl, by rw [HK.out]; exact HO.out, hbel⟩
end

section
open Go.RowKit

theorem quiet_left {P : Program} {f : FuncId} {args : Array Value} {w : World} {n : Nat} {v : Value}
    (h : Calls P f args (w.drewN n) fun e w' => e = .returned v ∧ w.drewN n = w') : Calls P f args (w.drewN n) fun e w'' => e = .returned v ∧ ∃ m, w'' = w.drewN m :=
  h.mono fun _ _ ⟨he, hm⟩ => ⟨he, n, hm.symm⟩

end

section
open Go.RowKit

theorem rises_at {n : Int} {ids : List Int} (h : rises n ids = true) {k : Nat} (hk : k < ids.length) : 0 ≤ ids.getD k 0 ∧ ids.getD k 0 < n := by
  have h1 := rises_iff.1 h
  have h2 := prev_low (k := k) fun i hi => h1 i (by omega)
  have h3 := h1 k hk
  exact ⟨by have := h3.1; omega, h3.2⟩
theorem flips_succ (xs ids : List Int) (k : Nat) (hk : k < ids.length) : flips xs (ids.take (k + 1)) = (flips xs (ids.take k)).set (ids.getD k 0).toNat (1 - (flips xs (ids.take k)).getD (ids.getD k 0).toNat 0) := by
  rw [take_succ' ids k hk, flips_snoc]

end

section
open Go.RowKit

end

section
open Go.RowKit

theorem infoU8 : (Try.prog.info? 5).map (fun i => (i.zero, i.size, i.bytes)) = some (some (.int .u8 0), 1, 1) := by kernel_rfl

def bitsText (xs : List Int) : ByteArray := if isBits xs = false then ByteArray.empty else strOfNums (xs.map fun x => 48 + x)
def isDigit01 (c : Int) : Bool := c == 48 || c == 49
def readBits (cs : List Int) : List Int × Bool := if 8192 < cs.length then ([], false) else if cs.all isDigit01 = true then (cs.map fun c => c - 48, true) else ([], false)
theorem bt_no {xs : List Int} (h : isBits xs = false) : bitsText xs = ByteArray.empty := by simp [bitsText, h]
theorem bt_yes {xs : List Int} (h : isBits xs = true) : bitsText xs = strOfNums (xs.map fun x => 48 + x) := by simp [bitsText, h]
theorem rb_long {cs : List Int} (h : 8192 < cs.length) : readBits cs = ([], false) := by simp [readBits, h]
theorem rb_no {cs : List Int} {k : Nat} (hk : k < cs.length) (h : isDigit01 (cs.getD k 0) = false) : readBits cs = ([], false) := by
  unfold readBits
  split
  · rfl
  · rw [if_neg]
    rw [List.getD, List.getElem?_eq_getElem hk] at h
    intro hh
    have := List.all_eq_true.1 hh cs[k] (List.getElem_mem hk)
    simp at h
    rw [h] at this
    cases this
theorem rb_yes {cs : List Int} (h : ¬ 8192 < cs.length) (h2 : cs.all isDigit01 = true) : readBits cs = (cs.map fun c => c - 48, true) := by simp [readBits, h, h2]
theorem readBits_len (cs : List Int) : (readBits cs).1.length ≤ 8192 := by
  unfold readBits
  split
  · simp
  · split
    · rw [List.length_map]; omega
    · simp
theorem all_succ {p : Int → Bool} {cs : List Int} {k : Nat} (hk : k < cs.length) (h : (cs.take k).all p = true) (hp : p (cs.getD k 0) = true) : (cs.take (k + 1)).all p = true := by
  rw [take_succ' cs k hk, List.all_append, h]; simp only [List.all_cons, List.all_nil, hp, Bool.and_self]

theorem isDigit01_no {c : Int} (h0 : ¬ c = 48) (h1 : ¬ c = 49) : isDigit01 c = false := by simp [isDigit01, h0, h1]

end
end Go.Proofs.Ytbdfnkhmnglpbaa
