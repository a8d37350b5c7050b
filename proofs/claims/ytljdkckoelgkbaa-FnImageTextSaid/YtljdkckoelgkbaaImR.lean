/-
  Chapter 14: ReadImageText, on both sides; strings.IndexByte at the digits.
-/
import Derived.Test.YtljdkckoelgkbaaImH
import Derived.Test.YtljdkckoelgkbaaOneB
import Derived.Lib.Bytealg
namespace Go.Proofs.Ytljdkckoelgkbaa
open Go.RowKit

theorem rit_no {cs : List Int} (h : ¬ (cs.length % 2 = 0 ∧ cs.length ≤ 2048)) : readImageText cs = ([], false) := by
  unfold readImageText
  rw [if_neg (fun g => h ⟨g.1, g.2.1⟩)]
theorem rit_bad {cs : List Int} {k : Nat} (hk : k < cs.length) (h : digitOf (cs.getD k 0) < 0) : readImageText cs = ([], false) := by
  unfold readImageText
  rw [if_neg]
  intro g
  have := areDigits_iff.1 g.2.2 _ (getD_mem14 hk)
  omega
theorem rit_yes {cs : List Int} (h1 : cs.length % 2 = 0) (h2 : cs.length ≤ 2048) (h3 : areDigits cs = true) : readImageText cs = (unhex cs (cs.length / 2), true) := by
  unfold readImageText
  rw [if_pos ⟨h1, h2, h3⟩]
theorem readImageText_len (cs : List Int) : (readImageText cs).1.length ≤ 1024 := by
  unfold readImageText
  split
  · rename_i h; rw [unhex_len]; omega
  · simp
theorem digits_succ {cs : List Int} {k : Nat} (hk : k < cs.length) (h : areDigits (cs.take k) = true) (hp : 0 ≤ digitOf (cs.getD k 0)) : areDigits (cs.take (k + 1)) = true := by
  unfold areDigits at h ⊢
  exact all_succ hk h (by simpa using hp)
theorem digitOf_le (c : Int) : digitOf c ≤ 15 := by
  unfold digitOf
  repeat' split
  all_goals omega
theorem digitOf_ge (c : Int) : -1 ≤ digitOf c := by
  unfold digitOf
  repeat' split
  all_goals omega
/-- The bytes as far as i digits tell them. -/
def partHex (cs : List Int) (n i : Nat) : List Int := (List.range n).map fun j => if 2 * j + 1 < i then 16 * digitOf (cs.getD (2 * j) 0) + digitOf (cs.getD (2 * j + 1) 0) else if 2 * j < i then digitOf (cs.getD (2 * j) 0) else 0
theorem partHex_len (cs : List Int) (n i : Nat) : (partHex cs n i).length = n := by simp [partHex]
theorem partHex_get {cs : List Int} {n i j : Nat} (hj : j < n) : (partHex cs n i).getD j 0 = if 2 * j + 1 < i then 16 * digitOf (cs.getD (2 * j) 0) + digitOf (cs.getD (2 * j + 1) 0) else if 2 * j < i then digitOf (cs.getD (2 * j) 0) else 0 := by
  simp [partHex, List.getD, hj]
theorem partHex_zero (cs : List Int) (n : Nat) : partHex cs n 0 = List.replicate n 0 := by
  refine List.ext_getElem (by simp [partHex]) fun j h1 h2 => ?_
  simp [partHex]
theorem partHex_all (cs : List Int) (n : Nat) : partHex cs n (2 * n) = unhex cs n := by
  refine List.ext_getElem (by simp [partHex, unhex]) fun j h1 h2 => ?_
  rw [partHex_len] at h1
  simp only [partHex, unhex, List.getElem_map, List.getElem_range]
  rw [if_pos (by omega)]
theorem partHex_old {cs : List Int} {n i : Nat} (hi : i < 2 * n) : (partHex cs n i).getD (i / 2) 0 = if i % 2 = 0 then 0 else digitOf (cs.getD (i - 1) 0) := by
  rw [partHex_get (by omega)]
  by_cases h : i % 2 = 0
  · rw [if_neg (by omega), if_neg (by omega), if_pos h]
  · rw [if_neg (by omega), if_pos (by omega), if_neg h, show 2 * (i / 2) = i - 1 by omega]
theorem partHex_succ {cs : List Int} {n i : Nat} (hi : i < 2 * n) : partHex cs n (i + 1) = (partHex cs n i).set (i / 2) ((partHex cs n i).getD (i / 2) 0 * 16 + digitOf (cs.getD i 0)) := by
  have ho := partHex_old (cs := cs) hi
  rw [ho]
  refine List.ext_getElem (by simp [partHex]) fun j h1 h2 => ?_
  rw [partHex_len] at h1
  rw [List.getElem_set]
  by_cases e : i / 2 = j
  · rw [if_pos e]
    subst e
    simp only [partHex, List.getElem_map, List.getElem_range]
    by_cases h : i % 2 = 0
    · rw [if_neg (by omega), if_pos (by omega), if_pos h, show 2 * (i / 2) = i by omega]; omega
    · rw [if_pos (by omega), if_neg h, show 2 * (i / 2) = i - 1 by omega, show i - 1 + 1 = i by omega]; omega
  · rw [if_neg e]
    simp only [partHex, List.getElem_map, List.getElem_range]
    by_cases g : 2 * j + 1 < i
    · rw [if_pos g, if_pos (by omega)]
    · rw [if_neg g, if_neg (by omega)]
      by_cases g2 : 2 * j < i
      · rw [if_pos g2, if_pos (by omega)]
      · rw [if_neg g2, if_neg (by omega)]
/-! ### strings.IndexByte -/
theorem find_digit : ∀ c, c < 256 → Lib.indexByte [48, 49, 50, 51, 52, 53, 54, 55, 56, 57, 97, 98, 99, 100, 101, 102] (c : Nat).toUInt8 = digitOf (c : Int) := by decide +kernel
theorem sliteIndexByte_any (s : ByteArray) (c : Int) (w : World) : Calls Try.prog 39 #[.string s, .int .u8 c] w fun e w' => e = .returned (.int .i64 (Lib.indexByte s.data.toList c.toNat.toUInt8)) ∧ w' = w := by
  have h := @run_callFunc_extern Try.prog 47 _ Extern.BytealgIndexByte.indexByte Try.func47 (by kernel_rfl) (by kernel_rfl) (by kernel_rfl) (by kernel_rfl)
  have h2 := fun W => Lib.run_indexByteString (P := Try.prog) s c W
  go_enter Try.func39, Try.ntmps39
  go_wp2
  go_ret
  exact ⟨rfl, rfl⟩
theorem indexByte_any (s : ByteArray) (c : Int) (w : World) : Calls Try.prog 25 #[.string s, .int .u8 c] w fun e w' => e = .returned (.int .i64 (Lib.indexByte s.data.toList c.toNat.toUInt8)) ∧ w' = w := by
  go_enter Try.func25, Try.ntmps25
  go_wp2_with (go_at_call 39; refine (sliteIndexByte_any _ _ _).mono ?_; rintro e w' ⟨rfl, rfl⟩)
  go_ret
  exact ⟨rfl, rfl⟩
theorem digitByte_any (c : Int) (w : World) (h0 : 0 ≤ c) (h1 : c < 256) : Calls Try.prog 25 #[.string ⟨#[48, 49, 50, 51, 52, 53, 54, 55, 56, 57, 97, 98, 99, 100, 101, 102]⟩, .int .u8 c] w fun e w' => e = .returned (.int .i64 (digitOf c)) ∧ w' = w := by
  have h := indexByte_any ⟨#[48, 49, 50, 51, 52, 53, 54, 55, 56, 57, 97, 98, 99, 100, 101, 102]⟩ c w
  obtain ⟨k, rfl⟩ := Int.eq_ofNat_of_zero_le h0
  rw [Int.toNat_natCast] at h
  have e := find_digit k (by omega)
  change Calls _ _ _ _ fun e w' => e = .returned (.int .i64 (Lib.indexByte [48, 49, 50, 51, 52, 53, 54, 55, 56, 57, 97, 98, 99, 100, 101, 102] (k : Nat).toUInt8)) ∧ w' = w at h
  rw [e] at h
  exact h
/-! ### ReadImageText -/
set_option maxHeartbeats 2000000 in
theorem readImageText_any (s : ByteArray) (w : World) (hn : s.size ≤ 1048576) :
    Calls Try.prog 10 #[.string s] w (MakesB 2 w (readImageText (nums s)).1 (readImageText (nums s)).2) := by
  have hnl := nums_len s
  by_cases hodd : s.size % 2 = 0
  rotate_left
  · rw [rit_no (by rw [hnl]; omega)]
    have hm : ((s.size : Int) % 2 != 0) = true := by simp; omega
    have hm2 : (Int.tmod (s.size : Int) 2 != 0) = true := by rw [Int.tmod_eq_emod_of_nonneg (by omega)]; exact hm
    clear hnl
    go_enter Try.func10, Try.ntmps10
    go_wp2
    go_ret2
    exact ⟨_, rfl, Own.nil_, Below.refl _ _⟩
  have hm : ((s.size : Int) % 2 != 0) = false := by simp; omega
  by_cases hl : 2048 < s.size
  · rw [rit_no (by rw [hnl]; omega)]
    clear hnl
    go_enter Try.func10, Try.ntmps10
    go_wp2
    go_ret2
    exact ⟨_, rfl, Own.nil_, Below.refl _ _⟩
  obtain ⟨n, hn2⟩ : ∃ n, s.size = 2 * n := ⟨s.size / 2, by omega⟩
  have HNL := Lib.hid hnl; clear hnl
  have HN2 := Lib.hid hn2
  have hq : (s.size : Int) / 2 = (n : Int) := by omega
  have hq2 : Int.tdiv (s.size : Int) 2 = (n : Int) := by rw [Int.tdiv_eq_ediv_of_nonneg (by omega)]; exact hq
  have hwn : IntKind.i64.wrap (n : Int) = (n : Int) := by rw [IntKind.wrap_i64]; omega
  have hsi : (s.size : Int) = 2 * (n : Int) := by omega
  have hnb : n ≤ 1024 := by omega
  clear hn2 hodd
  go_enter Try.func10, Try.ntmps10
  go_wp2_with (at_make; refine make_cap _ rfl _ _ rfl w.heap.size Try.underlying24 info64 _ _ _ _ n n rfl rfl rfl rfl (Nat.le_refl _) (by omega) (Nat.le_refl _) ?_; intro w1 o1 b1)
  have HO1 := Lib.hid (show Own 2 w1 w.heap.size (.slice (some ⟨w.heap.size, 0, none⟩) n n) (partHex (nums s) n 0) from by rw [partHex_zero]; exact o1)
  have HB1 := Lib.hid b1
  clear o1 b1
  go_loopw [5, 6, 7, 23] (fun _u5 _u6 _u7 i wr => ∃ k : Nat, k ≤ 2 * n ∧ i = .int .i64 k ∧ Own 2 wr w.heap.size (.slice (some ⟨w.heap.size, 0, none⟩) n n) (partHex (nums s) n k) ∧ Below w.heap.size w wr ∧ Hid (areDigits ((nums s).take k) = true)) (fun _ _ _ i _ => 2 * n - (intOf i).toNat)
  case atStart => exact ⟨0, Nat.zero_le _, rfl, HO1.out, HB1.out, rfl⟩
  case round =>
    clear HO1 HB1
    obtain ⟨k, hk, rfl, hown, hbel, hall⟩ := hrel
    by_cases hlt : k < 2 * n
    · have hks : k < s.size := by have := HN2.out; omega
      have hkn : k < (nums s).length := by rw [HNL.out]; exact hks
      have hng := nums_getD s k hks
      have hub : ((s[k]'hks).toNat : Int) < 256 := by have := (s[k]'hks).toNat_lt; omega
      have hlb : 0 ≤ ((s[k]'hks).toNat : Int) := by omega
      have hsucc := partHex_succ (cs := nums s) hlt
      have hold := partHex_old (cs := nums s) hlt
      have hpl := partHex_len (nums s) n k
      obtain ⟨hdst, hfz, hown', hbel'⟩ := own_store hown hpl (k := k / 2) (by omega) ((partHex (nums s) n k).getD (k / 2) 0 * 16 + digitOf ((nums s).getD k 0))
      rw [← hsucc] at hown'
      have hd15 := digitOf_le ((nums s).getD k 0)
      have hz : -1 ≤ (partHex (nums s) n k).getD (k / 2) 0 ∧ (partHex (nums s) n k).getD (k / 2) 0 ≤ 15 := by
        rw [hold]
        split
        · omega
        · exact ⟨digitOf_ge _, digitOf_le _⟩
      obtain ⟨c, hc⟩ : ∃ c : Int, ((s[k]'hks).toNat : Int) = c := ⟨_, rfl⟩
      rw [hc] at hub hlb hng
      have HNG := Lib.hid hng
      rw [hng] at hown' hbel' hd15
      have HKN := Lib.hid hkn
      clear hng hkn hsucc hold hpl
      by_cases hneg : digitOf c < 0
      · have hfin := rit_bad HKN.out (by rw [HNG.out]; exact hneg)
        have HF := Lib.hid hfin
        have HBE := Lib.hid hbel
        have HDB := Lib.hid (fun W => digitByte_any c W hlb (by omega))
        clear hfin hbel hown hown' hbel' hdst hfz hz hall
        generalize digitOf c = d at hneg HDB hd15
        go_wp2_with (go_at_call 25; refine (HDB.out _).mono ?_; rintro e w' ⟨rfl, rfl⟩)
        go_ret2
        rw [HF.out]
        exact ⟨_, rfl, Own.nil_, HBE.out⟩
      · have HD := Lib.hid (digits_succ HKN.out hall.out (by rw [HNG.out]; omega))
        have HDB := Lib.hid (fun W => digitByte_any c W hlb (by omega))
        have hkq : (k : Int) / 2 = ((k / 2 : Nat) : Int) := by omega
        have hkq2 : Int.tdiv (k : Int) 2 = ((k / 2 : Nat) : Int) := by rw [Int.tdiv_eq_ediv_of_nonneg (by omega)]; exact hkq
        have hk2 : k / 2 < n := by omega
        generalize (partHex (nums s) n k).getD (k / 2) 0 = z at hdst hown' hbel' hz
        generalize digitOf c = d at hneg HDB hd15 hown' hbel'
        generalize k / 2 = q at hkq hkq2 hk2 hdst hfz hown' hbel'
        have hwq : IntKind.i64.wrap (q : Int) = (q : Int) := by rw [IntKind.wrap_i64]; omega
        have hw1 : IntKind.i64.wrap (z * 16) = z * 16 := by rw [IntKind.wrap_i64]; omega
        have hw2 : IntKind.i64.wrap (z * 16 + d) = z * 16 + d := by rw [IntKind.wrap_i64]; omega
        have HO := Lib.hid hown'; have HBE := Lib.hid (hbel.trans hbel')
        clear hown hown' hbel hbel' hall hz hd15
        go_wp2_with (go_at_call 25; refine (HDB.out _).mono ?_; rintro e w' ⟨rfl, rfl⟩)
        go_roundw
        case rel => exact ⟨k + 1, by omega, by go_num, HO.out, HBE.out, HD.out⟩
        case measure => simp [intOf]; omega
    · have hkn : k = 2 * n := by omega
      subst hkn
      have hall' := hall.out
      rw [List.take_of_length_le (by rw [HNL.out, HN2.out]; exact Nat.le_refl _)] at hall'
      have hfin := rit_yes (by rw [HNL.out, HN2.out]; omega) (by rw [HNL.out, HN2.out]; omega) hall'
      rw [HNL.out, HN2.out, show 2 * n / 2 = n by omega, ← partHex_all] at hfin
      have HF := Lib.hid hfin
      have HO := Lib.hid hown
      clear hall' hall hfin hown
      go_wp2
      go_ret2
      rw [HF.out]
      exact ⟨_, rfl, HO.out, hbel⟩
end Go.Proofs.Ytljdkckoelgkbaa
