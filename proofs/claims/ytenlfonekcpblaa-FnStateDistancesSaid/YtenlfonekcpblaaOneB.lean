/-
  BitsToBytes, on both sides.
  FlipBits and DifferingBits, on both sides.
  FlipBits and DifferingBits, on both sides (the loops that write).
  DifferingBits, on both sides.
  BitsText and ReadBits, on both sides.
-/
import Derived.Test.YtenlfonekcpblaaOne
import Derived.Test.YtenlfonekcpblaaBase
import Derived.BigRegion
namespace Go.Proofs.Ytenlfonekcpblaa
section
open Go.RowKit

theorem bytesTo_len (xs : List Int) (j : Nat) : (bytesTo xs j).length = j := by simp [bytesTo]
theorem bytesTo_succ (xs : List Int) (j : Nat) : bytesTo xs (j + 1) = bytesTo xs j ++ [numOf ((xs.drop (8 * j)).take 8)] := by simp [bytesTo, List.range_succ]
theorem bytesTo_getD (xs : List Int) (m k : Nat) (h : k < m) : (bytesTo xs m).getD k 0 = numOf ((xs.drop (8 * k)).take 8) := by
  simp [bytesTo, List.getD, h]
theorem bi_1 {xs : List Int} (h : isBits xs = false) : bitsToBytes xs = ([], 1) := by simp [bitsToBytes, h]
theorem bi_5 {xs : List Int} (h : isBits xs = true) (h2 : xs.length % 8 ≠ 0) : bitsToBytes xs = ([], 5) := by
  unfold bitsToBytes; rw [if_neg (by simp [h]), if_pos h2]
theorem bi_0 {xs : List Int} (h : isBits xs = true) (h2 : xs.length % 8 = 0) : bitsToBytes xs = (bytesTo xs (xs.length / 8), 0) := by
  unfold bitsToBytes; rw [if_neg (by simp [h]), if_neg (by omega)]

end

section
open Go.RowKit

theorem quiet_left {P : Program} {f : FuncId} {args : Array Value} {w : World} {n : Nat} {v : Value}
    (h : Calls P f args (w.drewN n) fun e w' => e = .returned v ∧ w.drewN n = w') : Calls P f args (w.drewN n) fun e w'' => e = .returned v ∧ ∃ m, w'' = w.drewN m :=
  h.mono fun _ _ ⟨he, hm⟩ => ⟨he, n, hm.symm⟩

end

section
open Go.RowKit

theorem rises_at {n : Int} {ids : List Int} (h : rises n ids = true) {k : Nat} (hk : k < ids.length) : 0 ≤ ids.getD k 0 ∧ ids.getD k 0 < n := by
  have h1 := rises_iff.1 h
  have h2 := prev_low (k := k) fun i hi => h1 i (by omega)
  have h3 := h1 k hk
  exact ⟨by have := h3.1; omega, h3.2⟩
theorem flips_succ (xs ids : List Int) (k : Nat) (hk : k < ids.length) : flips xs (ids.take (k + 1)) = (flips xs (ids.take k)).set (ids.getD k 0).toNat (1 - (flips xs (ids.take k)).getD (ids.getD k 0).toNat 0) := by
  rw [take_succ' ids k hk, flips_snoc]

/-- spec.l01Differ. -/
theorem l01Differ_any (ao bo : Option Addr) (n cap cap' : Nat) (xs ys : List Int) (w : World) (hr : Rd w ao n xs) (hr' : Rd w bo n ys) (hn : n ≤ 1048576) :
    Calls Try.prog 39 #[.slice ao n cap, .slice bo n cap'] w (Makes 2 w (diffTo xs ys n)) := by
  go_enter Try.func39, Try.ntmps39
  go_wp2
  go_loopw [5, 6] (fun v i wr => ∃ k : Nat, k ≤ n ∧ i = .int .i64 k ∧ Own 2 wr w.heap.size v (diffTo xs ys k) ∧ Below w.heap.size w wr) (fun _ i _ => n - (intOf i).toNat)
  case atStart => exact ⟨0, Nat.zero_le _, rfl, Own.of_alloc_nil (Nat.le_refl _), (Below.refl _ _).alloc (Nat.le_refl _) _⟩
  case round =>
    obtain ⟨k, hk, rfl, hown, hbel⟩ := hrel
    by_cases hlt : k < n
    · obtain ⟨b, off, rfl, hc⟩ := (hr.below hbel).here (by omega)
      obtain ⟨b', off', rfl, hc'⟩ := (hr'.below hbel).here (by omega)
      have hck := hc k hlt
      have hck' := hc' k hlt
      clear hc hc'
      have hbs := hbel.size
      have hdl := diffTo_len xs ys k
      have HN := Lib.hid (@diffTo_ne xs ys k)
      have HE := Lib.hid (@diffTo_eq xs ys k)
      obtain ⟨x, hx⟩ : ∃ x, x = xs.getD k 0 := ⟨_, rfl⟩
      obtain ⟨y, hy⟩ : ∃ y, y = ys.getD k 0 := ⟨_, rfl⟩
      rw [← hx] at hck HN HE
      rw [← hy] at hck' HN HE
      clear hx hy
      have HO := Lib.hid hown; clear hown
      have HBE := Lib.hid hbel; clear hbel
      by_cases hxy : (x != y) = true
      · go_wp2
        go_quiet (fail)
        have hls : (diffTo xs ys k).length ≤ 4294967296 := by omega
        go_wp2_with (at_builtin; (refine append_one _ rfl (.tmp 23) (.tmp 25) rfl w.heap.size Try.underlying38 info64 _ _ rfl (HO.out.below ((below_drewN' (Below.refl _ _) _).alloc (Nat.le_refl _) _)) _ _ _ rfl (new_cell rfl) hls (by simp; omega) ?_); intro v' w' hown hbel)
        have h := hown
        rw [← HN.out hxy] at h
        have HO' := Lib.hid h; clear h hown
        have HB' := Lib.hid hbel; clear hbel
        go_wp2
        go_roundw
        case rel => exact ⟨k + 1, by omega, by go_num, HO'.out, ((below_drewN' HBE.out _).alloc (by exact hbs) _).trans HB'.out⟩
        case measure => simp [intOf]; omega
      · have hxy' : (x != y) = false := by simpa using hxy
        clear hxy
        have h := HO.out
        rw [← HE.out hxy'] at h
        have HO' := Lib.hid h; clear h HO
        go_wp2
        go_quiet (fail)
        go_wp2
        go_roundw
        case rel => exact ⟨k + 1, by omega, by go_num, HO'.out.below (below_drewN' (Below.refl _ _) _), below_drewN' HBE.out _⟩
        case measure => simp [intOf]; omega
    · have hkn : k = n := by omega
      subst hkn
      have HO := Lib.hid hown; clear hown
      go_wp2
      go_ret
      exact ⟨_, rfl, HO.out, hbel⟩
end

section
open Go.RowKit

theorem differingBits_any (ao bo : Option Addr) (cap cap' : Nat) (xs ys : List Int) (w : World) (hr : Rd w ao xs.length xs) (hr' : Rd w bo ys.length ys) (hn : xs.length ≤ 1048576) (hn' : ys.length ≤ 1048576) :
    Calls Try.prog 37 #[.slice ao xs.length cap, .slice bo ys.length cap'] w (Makes2 2 w (differingBits xs ys).1 (differingBits xs ys).2) := by
  by_cases hb : isBits xs = true
  · by_cases hb2 : isBits ys = true
    · by_cases hl : xs.length = ys.length
      · rw [db_0 hb hb2 hl]
        rw [← hl] at hr' ⊢
        have HB := Lib.hid hb; clear hb
        have HB2 := Lib.hid hb2; clear hb2 hl hn'
        obtain ⟨n, hn0⟩ : ∃ n, n = xs.length := ⟨_, rfl⟩
        rw [← hn0] at hr hr' hn ⊢
        clear hn0
        have hne : ((n : Int) != (n : Int)) = false := by simp
        go_enter Try.func37, Try.ntmps37
        go_wp2_with fail
        refine (isBits_any _ _ _ _ _ hr (by omega)).mono ?_
        rintro e w' ⟨rfl, rfl⟩
        rw [HB.out]
        go_wp2_with fail
        refine (isBits_any _ _ _ _ _ hr' (by omega)).mono ?_
        rintro e w' ⟨rfl, rfl⟩
        rw [HB2.out]
        go_wp2
        clear hne
        go_loopw [6, 23] (fun v i wr => ∃ k : Nat, k ≤ n ∧ i = .int .i64 k ∧ Own 2 wr w.heap.size v (diffTo xs ys k) ∧ Below w.heap.size w wr) (fun _ i _ => n - (intOf i).toNat)
        case atStart => exact ⟨0, Nat.zero_le _, rfl, Own.nil_, Below.refl _ _⟩
        case round =>
          obtain ⟨k, hk, rfl, hown, hbel⟩ := hrel
          by_cases hlt : k < n
          · obtain ⟨b, off, rfl, hc⟩ := (hr.below hbel).here (by omega)
            obtain ⟨b', off', rfl, hc'⟩ := (hr'.below hbel).here (by omega)
            have hck := hc k hlt
            have hck' := hc' k hlt
            clear hc hc'
            have hbs := hbel.size
            have hdl := diffTo_len xs ys k
            have HN := Lib.hid (@diffTo_ne xs ys k)
            have HE := Lib.hid (@diffTo_eq xs ys k)
            obtain ⟨x, hx⟩ : ∃ x, x = xs.getD k 0 := ⟨_, rfl⟩
            obtain ⟨y, hy⟩ : ∃ y, y = ys.getD k 0 := ⟨_, rfl⟩
            rw [← hx] at hck HN HE
            rw [← hy] at hck' HN HE
            clear hx hy
            have HO := Lib.hid hown; clear hown
            have HBE := Lib.hid hbel; clear hbel
            by_cases hxy : (x != y) = true
            · go_wp2
              go_quiet (fail)
              have hls : (diffTo xs ys k).length ≤ 4294967296 := by omega
              go_wp2_with (at_builtin; refine append_one _ rfl (.tmp 35) (.tmp 37) rfl w.heap.size Try.underlying38 info64 _ _ rfl (HO.out.below ((below_drewN' (Below.refl _ _) _).alloc (Nat.le_refl _) _)) _ _ _ rfl (new_cell rfl) hls (by simp; omega) ?_; intro v' w' hown hbel)
              have h := hown
              rw [← HN.out hxy] at h
              have HO' := Lib.hid h; clear h hown
              have HB' := Lib.hid hbel; clear hbel
              go_wp2
              go_roundw
              case rel => exact ⟨k + 1, by omega, by go_num, HO'.out, ((below_drewN' HBE.out _).alloc (by exact hbs) _).trans HB'.out⟩
              case measure => simp [intOf]; omega
            · have hxy' : (x != y) = false := by simpa using hxy
              clear hxy
              have h := HO.out
              rw [← HE.out hxy'] at h
              have HO' := Lib.hid h; clear h HO
              go_wp2
              go_quiet (fail)
              go_wp2
              go_roundw
              case rel => exact ⟨k + 1, by omega, by go_num, HO'.out.below (below_drewN' (Below.refl _ _) _), below_drewN' HBE.out _⟩
              case measure => simp [intOf]; omega
          · have hkn : k = n := by omega
            subst hkn
            have HO := Lib.hid hown; clear hown
            go_wp2
            go_ret2
            exact ⟨_, rfl, HO.out, hbel⟩
      · rw [db_5 hb hb2 hl]
        have HB := Lib.hid hb; clear hb
        have HB2 := Lib.hid hb2; clear hb2
        have hne : ((xs.length : Int) != (ys.length : Int)) = true := by simp; omega
        clear hl
        go_enter Try.func37, Try.ntmps37
        go_wp2_with fail
        refine (isBits_any _ _ _ _ _ hr (by omega)).mono ?_
        rintro e w' ⟨rfl, rfl⟩
        rw [HB.out]
        go_wp2_with fail
        refine (isBits_any _ _ _ _ _ hr' (by omega)).mono ?_
        rintro e w' ⟨rfl, rfl⟩
        rw [HB2.out]
        go_wp2
        go_ret2
        exact ⟨_, rfl, Own.nil_, Below.refl _ _⟩
    · have hb2' : isBits ys = false := by simpa using hb2
      rw [db_1b hb2']
      have HB := Lib.hid hb; clear hb
      have HB2 := Lib.hid hb2'; clear hb2 hb2'
      go_enter Try.func37, Try.ntmps37
      go_wp2_with fail
      refine (isBits_any _ _ _ _ _ hr (by omega)).mono ?_
      rintro e w' ⟨rfl, rfl⟩
      rw [HB.out]
      go_wp2_with fail
      refine (isBits_any _ _ _ _ _ hr' (by omega)).mono ?_
      rintro e w' ⟨rfl, rfl⟩
      rw [HB2.out]
      go_wp2
      go_ret2
      exact ⟨_, rfl, Own.nil_, Below.refl _ _⟩
  · have hb' : isBits xs = false := by simpa using hb
    rw [db_1a hb']
    have HB := Lib.hid hb'; clear hb hb'
    go_enter Try.func37, Try.ntmps37
    go_wp2_with (go_at_call 43; refine (isBits_any _ _ _ _ _ hr (by omega)).mono ?_; rintro e w' ⟨rfl, rfl⟩; rw [HB.out])
    go_ret2
    exact ⟨_, rfl, Own.nil_, Below.refl _ _⟩
end

section
open Go.RowKit

theorem infoU8 : (Try.prog.info? 5).map (fun i => (i.zero, i.size, i.bytes)) = some (some (.int .u8 0), 1, 1) := by kernel_rfl

def bitsText (xs : List Int) : ByteArray := if isBits xs = false then ByteArray.empty else strOfNums (xs.map fun x => 48 + x)
def isDigit01 (c : Int) : Bool := c == 48 || c == 49
def readBits (cs : List Int) : List Int × Bool := if 8192 < cs.length then ([], false) else if cs.all isDigit01 = true then (cs.map fun c => c - 48, true) else ([], false)
theorem bt_no {xs : List Int} (h : isBits xs = false) : bitsText xs = ByteArray.empty := by simp [bitsText, h]
theorem bt_yes {xs : List Int} (h : isBits xs = true) : bitsText xs = strOfNums (xs.map fun x => 48 + x) := by simp [bitsText, h]
theorem rb_long {cs : List Int} (h : 8192 < cs.length) : readBits cs = ([], false) := by simp [readBits, h]
theorem rb_no {cs : List Int} {k : Nat} (hk : k < cs.length) (h : isDigit01 (cs.getD k 0) = false) : readBits cs = ([], false) := by
  unfold readBits
  split
  · rfl
  · rw [if_neg]
    rw [List.getD, List.getElem?_eq_getElem hk] at h
    intro hh
    have := List.all_eq_true.1 hh cs[k] (List.getElem_mem hk)
    simp at h
    rw [h] at this
    cases this
theorem rb_yes {cs : List Int} (h : ¬ 8192 < cs.length) (h2 : cs.all isDigit01 = true) : readBits cs = (cs.map fun c => c - 48, true) := by simp [readBits, h, h2]
theorem readBits_len (cs : List Int) : (readBits cs).1.length ≤ 8192 := by
  unfold readBits
  split
  · simp
  · split
    · rw [List.length_map]; omega
    · simp
theorem all_succ {p : Int → Bool} {cs : List Int} {k : Nat} (hk : k < cs.length) (h : (cs.take k).all p = true) (hp : p (cs.getD k 0) = true) : (cs.take (k + 1)).all p = true := by
  rw [take_succ' cs k hk, List.all_append, h]; simp only [List.all_cons, List.all_nil, hp, Bool.and_self]

theorem isDigit01_no {c : Int} (h0 : ¬ c = 48) (h1 : ¬ c = 49) : isDigit01 c = false := by simp [isDigit01, h0, h1]

end
end Go.Proofs.Ytenlfonekcpblaa
