/-
  BitsText and ReadBits, on both sides.
-/
import Derived.Test.YtbbankbamjnlcaaLeaf
import Derived.Test.YtbbankbamjnlcaaPlain
import Derived.Test.YtbbankbamjnlcaaBytes
namespace Go.Proofs.Ytbbankbamjnlcaa
open Go.RowKit

theorem infoU8 : (Try.prog.info? 5).map (fun i => (i.zero, i.size, i.bytes)) = some (some (.int .u8 0), 1, 1) := by kernel_rfl

def bitsText (xs : List Int) : ByteArray := if isBits xs = false then ByteArray.empty else strOfNums (xs.map fun x => 48 + x)
def isDigit01 (c : Int) : Bool := c == 48 || c == 49
def readBits (cs : List Int) : List Int × Bool := if 8192 < cs.length then ([], false) else if cs.all isDigit01 = true then (cs.map fun c => c - 48, true) else ([], false)
theorem bt_no {xs : List Int} (h : isBits xs = false) : bitsText xs = ByteArray.empty := by simp [bitsText, h]
theorem bt_yes {xs : List Int} (h : isBits xs = true) : bitsText xs = strOfNums (xs.map fun x => 48 + x) := by simp [bitsText, h]
theorem rb_long {cs : List Int} (h : 8192 < cs.length) : readBits cs = ([], false) := by simp [readBits, h]
theorem rb_no {cs : List Int} {k : Nat} (hk : k < cs.length) (h : isDigit01 (cs.getD k 0) = false) : readBits cs = ([], false) := by
  unfold readBits
  split
  · rfl
  · rw [if_neg]
    rw [List.getD, List.getElem?_eq_getElem hk] at h
    intro hh
    have := List.all_eq_true.1 hh cs[k] (List.getElem_mem hk)
    simp at h
    rw [h] at this
    cases this
theorem rb_yes {cs : List Int} (h : ¬ 8192 < cs.length) (h2 : cs.all isDigit01 = true) : readBits cs = (cs.map fun c => c - 48, true) := by simp [readBits, h, h2]
theorem readBits_len (cs : List Int) : (readBits cs).1.length ≤ 8192 := by
  unfold readBits
  split
  · simp
  · split
    · rw [List.length_map]; omega
    · simp
theorem all_succ {p : Int → Bool} {cs : List Int} {k : Nat} (hk : k < cs.length) (h : (cs.take k).all p = true) (hp : p (cs.getD k 0) = true) : (cs.take (k + 1)).all p = true := by
  rw [take_succ' cs k hk, List.all_append, h]; simp only [List.all_cons, List.all_nil, hp, Bool.and_self]

theorem bitsText_any (ao : Option Addr) (cap : Nat) (xs : List Int) (w : World) (hr : Rd w ao xs.length xs) (hn : xs.length ≤ 1048576) :
    Calls Try.prog 41 #[.slice ao xs.length cap] w fun e w' => e = .returned (.string (bitsText xs)) ∧ Below w.heap.size w w' := by
  by_cases hb : isBits xs = true
  · have hbits := (isBits_iff.1 hb).2
    have HZ := Lib.hid hbits; clear hbits
    rw [bt_yes hb]
    have HB := Lib.hid hb; clear hb
    obtain ⟨n, hn0⟩ : ∃ n, n = xs.length := ⟨_, rfl⟩
    rw [← hn0] at hr hn ⊢
    have HN := Lib.hid hn0; clear hn0
    obtain ⟨ys, hys⟩ : ∃ ys, ys = xs.map fun x => 48 + x := ⟨_, rfl⟩
    rw [← hys]
    have hyl : ys.length = n := by rw [hys, List.length_map, HN.out]
    have hyg : ∀ k, k < n → ys.getD k 0 = 48 + xs.getD k 0 := fun k hk => by
      have : k < xs.length := by have := HN.out; omega
      rw [hys]; simp [List.getD, this]
    have HYL := Lib.hid hyl; clear hyl
    have HYG := Lib.hid hyg; clear hyg hys
    go_enter Try.func41, Try.ntmps41
    go_wp2_with (first
      | (go_at_call 47; refine (isBits_any _ _ _ _ _ hr (by omega)).mono ?_; rintro e w' ⟨rfl, rfl⟩; rw [HB.out])
      | (at_make; refine make_bytes _ rfl _ _ rfl w.heap.size Try.underlying22 infoU8 _ _ _ _ n rfl rfl rfl rfl (by omega) (Nat.le_refl _) ?_; intro w1 o1 b1))
    have o1' : OwnK .u8 5 w1 w.heap.size (.slice (some ⟨w.heap.size, 0, none⟩) n n) (fillTo ys 0) := by rw [fillTo_zero, HYL.out]; exact o1
    clear o1
    go_loopw [14] (fun i wr => ∃ k : Nat, k ≤ n ∧ i = .int .i64 k ∧ OwnK .u8 5 wr w.heap.size (.slice (some ⟨w.heap.size, 0, none⟩) n n) (fillTo ys k) ∧ Below w.heap.size w wr) (fun i _ => n - (intOf i).toNat)
    case atStart => exact ⟨0, Nat.zero_le _, rfl, o1', b1⟩
    case round =>
      clear o1' b1
      obtain ⟨k, hk, rfl, hown, hbel⟩ := hrel
      by_cases hlt : k < n
      · obtain ⟨b, off, rfl, hc⟩ := (hr.below hbel).here (by omega)
        have hck := hc k hlt
        clear hc
        have hky : k < ys.length := by rw [HYL.out]; exact hlt
        have hbd := HZ.out _ (getD_mem' (by rw [← HN.out]; exact hlt : k < xs.length))
        have hfl := fillTo_len ys k (by omega)
        obtain ⟨hdst, hfz, hown', hbel'⟩ := ownK_store hown (hfl.trans HYL.out) hlt (48 + xs.getD k 0)
        rw [← HYG.out k hlt, fillTo_succ ys k hky, HYG.out k hlt] at hown'
        obtain ⟨x, hx⟩ : ∃ x, x = xs.getD k 0 := ⟨_, rfl⟩
        obtain ⟨z, hz⟩ : ∃ z, z = (fillTo ys k).getD k 0 := ⟨_, rfl⟩
        rw [← hx] at hown' hbel' hck hbd
        rw [← hz] at hdst
        obtain ⟨hx0, hx1⟩ := hbd
        have HO := Lib.hid hown'; clear hown' hown
        have HBE := Lib.hid (hbel.trans hbel'); clear hbel hbel' hx hz hfl hky
        go_wp2
        go_roundw
        case rel => exact ⟨k + 1, by omega, by go_num, HO.out, HBE.out⟩
        case measure => simp [intOf]; omega
      · have hkn : k = n := by omega
        subst hkn
        have h := hown
        rw [show fillTo ys k = ys from by have := fillTo_all ys; rwa [HYL.out] at this] at h
        have hcv := h.string Try.underlying22 Try.underlying5 9 Try.underlying9
        clear hown h
        go_wp2
        go_ret
        exact ⟨rfl, hbel⟩
  · have hb' : isBits xs = false := by simpa using hb
    rw [bt_no hb']
    have HB := Lib.hid hb'; clear hb hb'
    go_enter Try.func41, Try.ntmps41
    go_wp2_with (go_at_call 47; refine (isBits_any _ _ _ _ _ hr (by omega)).mono ?_; rintro e w' ⟨rfl, rfl⟩; rw [HB.out])
    go_ret
    exact ⟨rfl, Below.refl _ _⟩

theorem sBitsText_any (ao : Option Addr) (cap : Nat) (xs : List Int) (w : World) (hr : Rd w ao xs.length xs) (hn : xs.length ≤ 1048576) :
    Calls Try.prog 45 #[.slice ao xs.length cap] w fun e w' => e = .returned (.string (bitsText xs)) ∧ Below w.heap.size w w' := by
  by_cases hb : isBits xs = true
  · have hbits := (isBits_iff.1 hb).2
    have HZ := Lib.hid hbits; clear hbits
    rw [bt_yes hb]
    have HB := Lib.hid hb; clear hb
    obtain ⟨n, hn0⟩ : ∃ n, n = xs.length := ⟨_, rfl⟩
    rw [← hn0] at hr hn ⊢
    have HN := Lib.hid hn0; clear hn0
    go_enter Try.func45, Try.ntmps45
    go_wp2_with (go_at_call 46; refine (sIsBits_any _ _ _ _ _ (hr.below ((Below.refl _ _).alloc (Nat.le_refl _) _)) (by omega)).mono ?_; rintro e w' ⟨rfl, rfl⟩; rw [HB.out])
    go_loopw [3, 4] (fun v i wr => ∃ k : Nat, k ≤ n ∧ i = .int .i64 k ∧ OwnK .u8 5 wr w.heap.size v ((xs.take k).map fun x => 48 + x) ∧ Below w.heap.size w wr) (fun _ i _ => n - (intOf i).toNat)
    case atStart => exact ⟨0, Nat.zero_le _, rfl, OwnK.of_alloc_nil (Nat.le_refl _), (Below.refl _ _).alloc (Nat.le_refl _) _⟩
    case round =>
      obtain ⟨k, hk, rfl, hown, hbel⟩ := hrel
      by_cases hlt : k < n
      · obtain ⟨b, off, rfl, hc⟩ := (hr.below hbel).here (by omega)
        have hck := hc k hlt
        clear hc
        have hkx : k < xs.length := by rw [← HN.out]; exact hlt
        have hbd := HZ.out _ (getD_mem' hkx)
        have hls : ((xs.take k).map fun x => 48 + x).length ≤ 4294967296 := by rw [List.length_map, List.length_take]; omega
        have hbs := hbel.size
        have hsn : (xs.take (k + 1)).map (fun x => 48 + x) = (xs.take k).map (fun x => 48 + x) ++ [48 + xs.getD k 0] := by rw [take_succ' xs k hkx]; simp
        obtain ⟨x, hx⟩ : ∃ x, x = xs.getD k 0 := ⟨_, rfl⟩
        rw [← hx] at hck hbd hsn
        obtain ⟨hx0, hx1⟩ := hbd
        have HSN := Lib.hid hsn; clear hsn hx hkx
        have HO := Lib.hid hown; clear hown
        have HBE := Lib.hid hbel; clear hbel
        go_wp2_with (at_builtin; refine append_byte _ rfl (.tmp 15) (.tmp 22) rfl w.heap.size Try.underlying22 infoU8 _ _ rfl (HO.out.below ((Below.refl _ _).alloc (Nat.le_refl _) _)) _ _ _ rfl (new_cell rfl) hls (by simp; omega) ?_; intro v' w' hown hbel)
        have h := hown
        rw [← HSN.out] at h
        have HO' := Lib.hid h; clear h hown
        have HB' := Lib.hid hbel; clear hbel
        go_wp2
        go_roundw
        case rel => exact ⟨k + 1, by omega, by go_num, HO'.out, (HBE.out.alloc (by omega) _).trans HB'.out⟩
        case measure => simp [intOf]; omega
      · have hkn : k = n := by omega
        subst hkn
        have h := hown
        rw [show xs.take k = xs from List.take_of_length_le (by rw [← HN.out]; exact Nat.le_refl _)] at h
        have hcv := h.string Try.underlying22 Try.underlying5 9 Try.underlying9
        clear hown h
        go_wp2
        go_ret
        exact ⟨rfl, hbel⟩
  · have hb' : isBits xs = false := by simpa using hb
    rw [bt_no hb']
    have HB := Lib.hid hb'; clear hb hb'
    go_enter Try.func45, Try.ntmps45
    go_wp2_with (go_at_call 46; refine (sIsBits_any _ _ _ _ _ (hr.below ((Below.refl _ _).alloc (Nat.le_refl _) _)) (by omega)).mono ?_; rintro e w' ⟨rfl, rfl⟩; rw [HB.out])
    go_ret
    exact ⟨rfl, (Below.refl _ _).alloc (Nat.le_refl _) _⟩
theorem isDigit01_no {c : Int} (h0 : ¬ c = 48) (h1 : ¬ c = 49) : isDigit01 c = false := by simp [isDigit01, h0, h1]

theorem readBits_any (s : ByteArray) (w : World) (hn : s.size ≤ 1048576) :
    Calls Try.prog 42 #[.string s] w (MakesB 2 w (readBits (nums s)).1 (readBits (nums s)).2) := by
  have hnl := nums_len s
  by_cases hl : 8192 < s.size
  · rw [rb_long (by rw [hnl]; exact hl)]
    clear hnl
    go_enter Try.func42, Try.ntmps42
    go_wp2
    go_ret2
    exact ⟨_, rfl, Own.nil_, Below.refl _ _⟩
  · have HNL := Lib.hid hnl; clear hnl
    obtain ⟨ys, hys⟩ : ∃ ys, ys = (nums s).map fun c => c - 48 := ⟨_, rfl⟩
    have hyl : ys.length = s.size := by rw [hys, List.length_map, HNL.out]
    have HYL := Lib.hid hyl; clear hyl
    have HYS := Lib.hid hys; clear hys
    go_enter Try.func42, Try.ntmps42
    go_wp2_with (at_make; refine make_cap _ rfl _ _ rfl w.heap.size Try.underlying24 info64 _ _ _ _ s.size s.size rfl rfl rfl rfl (Nat.le_refl _) (by omega) (Nat.le_refl _) ?_; intro w1 o1 b1)
    have o1' : Own 2 w1 w.heap.size (.slice (some ⟨w.heap.size, 0, none⟩) s.size s.size) (fillTo ys 0) := by rw [fillTo_zero, HYL.out]; exact o1
    clear o1
    go_loopw [14] (fun i wr => ∃ k : Nat, k ≤ s.size ∧ i = .int .i64 k ∧ Own 2 wr w.heap.size (.slice (some ⟨w.heap.size, 0, none⟩) s.size s.size) (fillTo ys k) ∧ Below w.heap.size w wr ∧ Hid (((nums s).take k).all isDigit01 = true)) (fun i _ => s.size - (intOf i).toNat)
    case atStart => exact ⟨0, Nat.zero_le _, rfl, o1', b1, rfl⟩
    case round =>
      clear o1' b1
      obtain ⟨k, hk, rfl, hown, hbel, hall⟩ := hrel
      by_cases hlt : k < s.size
      · have hky : k < ys.length := by rw [HYL.out]; exact hlt
        have hkn : k < (nums s).length := by rw [HNL.out]; exact hlt
        have hfl := fillTo_len ys k (by omega)
        have hng := nums_getD s k hlt
        have hyg : ys.getD k 0 = (nums s).getD k 0 - 48 := by rw [HYS.out]; simp [List.getD, hkn]
        have hub : ((s[k]'hlt).toNat : Int) < 256 := by have := (s[k]'hlt).toNat_lt; omega
        have hlb : 0 ≤ ((s[k]'hlt).toNat : Int) := by omega
        obtain ⟨c, hc⟩ : ∃ c : Int, ((s[k]'hlt).toNat : Int) = c := ⟨_, rfl⟩
        rw [hc] at hub hlb hng
        rw [hng] at hyg
        have HNG := Lib.hid hng; clear hng
        have HKN := Lib.hid hkn; clear hkn
        obtain ⟨hdst, hfz, hown', hbel'⟩ := own_store hown (hfl.trans HYL.out) hlt (ys.getD k 0)
        rw [fillTo_succ ys k hky, hyg] at hown'
        rw [hyg] at hbel'
        obtain ⟨z, hz⟩ : ∃ z, z = (fillTo ys k).getD k 0 := ⟨_, rfl⟩
        rw [← hz] at hdst
        have HO := Lib.hid hown'; clear hown' hown
        have HBE0 := Lib.hid hbel
        have HBE := Lib.hid (hbel.trans hbel'); clear hbel hbel' hz hfl hky hyg
        by_cases h48 : c = 48
        · have t1 : (c != 48) = false := by simp [h48]
          have hd : isDigit01 ((nums s).getD k 0) = true := by rw [HNG.out]; simp [isDigit01, h48]
          have HD := Lib.hid hd; clear hd
          have hc48 : c ≤ 48 := by omega
          have hc48' : 48 ≤ c := by omega
          clear h48
          go_wp2
          go_roundw
          case rel => exact ⟨k + 1, by omega, by go_num, HO.out, HBE.out, all_succ HKN.out hall.out HD.out⟩
          case measure => simp [intOf]; omega
        · by_cases h49 : c = 49
          · have t1 : (c != 48) = true := by simp [h48]
            have t2 : (c != 49) = false := by simp [h49]
            have hd : isDigit01 ((nums s).getD k 0) = true := by rw [HNG.out]; simp [isDigit01, h49]
            have HD := Lib.hid hd; clear hd
            have hc49 : c ≤ 49 := by omega
            have hc49' : 49 ≤ c := by omega
            clear h48 h49
            go_wp2
            go_roundw
            case rel => exact ⟨k + 1, by omega, by go_num, HO.out, HBE.out, all_succ HKN.out hall.out HD.out⟩
            case measure => simp [intOf]; omega
          · have t1 : (c != 48) = true := by simp [h48]
            have t2 : (c != 49) = true := by simp [h49]
            have hfin := rb_no HKN.out (by rw [HNG.out]; exact isDigit01_no h48 h49)
            have HF := Lib.hid hfin; clear hfin h48 h49
            go_wp2
            go_ret2
            rw [HF.out]
            exact ⟨_, rfl, Own.nil_, HBE0.out⟩
      · have hkn : k = s.size := by omega
        subst hkn
        have hall' := hall.out
        rw [List.take_of_length_le (by rw [HNL.out]; exact Nat.le_refl _)] at hall'
        have hfin := rb_yes (by rw [HNL.out]; exact hl) hall'
        rw [← HYS.out] at hfin
        have HF := Lib.hid hfin; clear hall' hall hfin
        have h := hown
        rw [show fillTo ys s.size = ys from by have := fillTo_all ys; rwa [HYL.out] at this] at h
        have HO := Lib.hid h; clear hown h
        go_wp2
        go_ret2
        rw [HF.out]
        exact ⟨_, rfl, HO.out, hbel⟩

theorem sReadBits_any (s : ByteArray) (w : World) (hn : s.size ≤ 1048576) :
    Calls Try.prog 44 #[.string s] w (MakesB 2 w (readBits (nums s)).1 (readBits (nums s)).2) := by
  have hnl := nums_len s
  by_cases hl : 8192 < s.size
  · rw [rb_long (by rw [hnl]; exact hl)]
    clear hnl
    go_enter Try.func44, Try.ntmps44
    go_wp2
    go_ret2
    exact ⟨_, rfl, Own.nil_, Below.refl _ _⟩
  · have HNL := Lib.hid hnl; clear hnl
    go_enter Try.func44, Try.ntmps44
    go_wp2
    go_loopw [4, 5] (fun v i wr => ∃ k : Nat, k ≤ s.size ∧ i = .int .i64 k ∧ Own 2 wr w.heap.size v (((nums s).take k).map fun c => c - 48) ∧ Below w.heap.size w wr ∧ Hid (((nums s).take k).all isDigit01 = true)) (fun _ i _ => s.size - (intOf i).toNat)
    case atStart => exact ⟨0, Nat.zero_le _, rfl, Own.of_alloc_nil (Nat.le_refl _), (Below.refl _ _).alloc (Nat.le_refl _) _, rfl⟩
    case round =>
      obtain ⟨k, hk, rfl, hown, hbel, hall⟩ := hrel
      by_cases hlt : k < s.size
      · have hkn : k < (nums s).length := by rw [HNL.out]; exact hlt
        have hng := nums_getD s k hlt
        have hsn : ((nums s).take (k + 1)).map (fun c => c - 48) = ((nums s).take k).map (fun c => c - 48) ++ [(nums s).getD k 0 - 48] := by rw [take_succ' _ k hkn]; simp
        have hub : ((s[k]'hlt).toNat : Int) < 256 := by have := (s[k]'hlt).toNat_lt; omega
        have hlb : 0 ≤ ((s[k]'hlt).toNat : Int) := by omega
        have hls : (((nums s).take k).map fun c => c - 48).length ≤ 4294967296 := by rw [List.length_map, List.length_take]; omega
        have hbs := hbel.size
        obtain ⟨c, hc⟩ : ∃ c : Int, ((s[k]'hlt).toNat : Int) = c := ⟨_, rfl⟩
        rw [hc] at hub hlb hng
        rw [hng] at hsn
        have HNG := Lib.hid hng; clear hng
        have HKN := Lib.hid hkn; clear hkn
        have HSN := Lib.hid hsn; clear hsn
        have HO := Lib.hid hown; clear hown
        have HBE := Lib.hid hbel; clear hbel
        by_cases hcc : c = 48 ∨ c = 49
        · have hd : isDigit01 ((nums s).getD k 0) = true := by rw [HNG.out]; rcases hcc with h | h <;> simp [isDigit01, h]
          have HD := Lib.hid hd; clear hd
          have hlo : 48 ≤ c := by omega
          have hhi : c ≤ 49 := by omega
          have t2 : (c != 48) = false ∨ (c != 49) = false := by rcases hcc with h | h <;> simp [h]
          clear hcc
          rcases t2 with t2 | t2
          · go_wp2_with (at_builtin; refine append_one _ rfl (.tmp 26) (.tmp 32) rfl w.heap.size Try.underlying24 info64 _ _ rfl (HO.out.below ((Below.refl _ _).alloc (Nat.le_refl _) _)) _ _ _ rfl (new_cell rfl) hls (by simp; omega) ?_; intro v' w' hown hbel)
            have h := hown
            rw [← HSN.out] at h
            have HO' := Lib.hid h; clear h hown
            have HB' := Lib.hid hbel; clear hbel
            go_wp2
            go_roundw
            case rel => exact ⟨k + 1, by omega, by go_num, HO'.out, (HBE.out.alloc (by omega) _).trans HB'.out, all_succ HKN.out hall.out HD.out⟩
            case measure => simp [intOf]; omega
          · have t1 : (c != 48) = true := by
              have : c = 49 := by simpa using t2
              simp [this]
            go_wp2_with (at_builtin; refine append_one _ rfl (.tmp 26) (.tmp 32) rfl w.heap.size Try.underlying24 info64 _ _ rfl (HO.out.below ((Below.refl _ _).alloc (Nat.le_refl _) _)) _ _ _ rfl (new_cell rfl) hls (by simp; omega) ?_; intro v' w' hown hbel)
            have h := hown
            rw [← HSN.out] at h
            have HO' := Lib.hid h; clear h hown
            have HB' := Lib.hid hbel; clear hbel
            go_wp2
            go_roundw
            case rel => exact ⟨k + 1, by omega, by go_num, HO'.out, (HBE.out.alloc (by omega) _).trans HB'.out, all_succ HKN.out hall.out HD.out⟩
            case measure => simp [intOf]; omega
        · have h48 : ¬ c = 48 := fun h => hcc (.inl h)
          have h49 : ¬ c = 49 := fun h => hcc (.inr h)
          have t1 : (c != 48) = true := by simp [h48]
          have t2 : (c != 49) = true := by simp [h49]
          have hfin := rb_no HKN.out (by rw [HNG.out]; exact isDigit01_no h48 h49)
          have HF := Lib.hid hfin; clear hfin h48 h49 hcc
          go_wp2
          go_ret2
          rw [HF.out]
          exact ⟨_, rfl, Own.nil_, HBE.out⟩
      · have hkn : k = s.size := by omega
        subst hkn
        have hall' := hall.out
        rw [List.take_of_length_le (by rw [HNL.out]; exact Nat.le_refl _)] at hall'
        have hfin := rb_yes (by rw [HNL.out]; exact hl) hall'
        have h := hown
        rw [List.take_of_length_le (by rw [HNL.out]; exact Nat.le_refl _)] at h
        have HF := Lib.hid hfin; clear hall' hall hfin
        have HO := Lib.hid h; clear hown h
        go_wp2
        go_ret2
        rw [HF.out]
        exact ⟨_, rfl, HO.out, hbel⟩
end Go.Proofs.Ytbbankbamjnlcaa
