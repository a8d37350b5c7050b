/-
  Chapter 16: periods, demands, lists of demands and frames of rounds, of the program and of the model; LoadOf of both.
-/
import Derived.Test.YtbbodgeoenjdkaaPlD
import Derived.Test.YtbbodgeoenjdkaaIn
import Derived.Test.YtbbodgeoenjdkaaFiv
namespace Go.Proofs.Ytbbodgeoenjdkaa
open Go.RowKit

theorem isPow_no {n : Int} (h1 : n ≠ 1) (h2 : n ≠ 2) (h4 : n ≠ 4) (h8 : n ≠ 8) : isPow n = false := by
  simp [isPow, h1, h2, h4, h8]
theorem isPeriod_any (n : Int) (w : World) : Calls Try.prog 74 #[.int .i64 n] w fun e w' => e = .returned (.bool (isPow n)) ∧ w = w' := by
  by_cases h1 : n = 1
  · subst h1
    go_enter Try.func74, Try.ntmps74
    go_wp2
    go_ret
    exact ⟨rfl, rfl⟩
  by_cases h2 : n = 2
  · subst h2
    go_enter Try.func74, Try.ntmps74
    go_wp2
    go_ret
    exact ⟨rfl, rfl⟩
  by_cases h4 : n = 4
  · subst h4
    go_enter Try.func74, Try.ntmps74
    go_wp2
    go_ret
    exact ⟨rfl, rfl⟩
  by_cases h8 : n = 8
  · subst h8
    go_enter Try.func74, Try.ntmps74
    go_wp2
    go_ret
    exact ⟨rfl, rfl⟩
  rw [isPow_no h1 h2 h4 h8]
  have e1 : (n == 1) = false := by simpa using h1
  have e2 : (n == 2) = false := by simpa using h2
  have e4 : (n == 4) = false := by simpa using h4
  have e8 : (n == 8) = false := by simpa using h8
  clear h1 h2 h4 h8
  go_enter Try.func74, Try.ntmps74
  go_wp2
  go_ret
  exact ⟨rfl, rfl⟩
theorem l16Power_any (n : Int) (w : World) : Calls Try.prog 64 #[.int .i64 n] w fun e w' => e = .returned (.bool (isPow n)) ∧ w = w' := by
  by_cases h1 : n = 1
  · subst h1
    go_enter Try.func64, Try.ntmps64
    go_wp2
    go_ret
    exact ⟨rfl, rfl⟩
  by_cases h2 : n = 2
  · subst h2
    go_enter Try.func64, Try.ntmps64
    go_wp2
    go_ret
    exact ⟨rfl, rfl⟩
  by_cases h4 : n = 4
  · subst h4
    go_enter Try.func64, Try.ntmps64
    go_wp2
    go_ret
    exact ⟨rfl, rfl⟩
  by_cases h8 : n = 8
  · subst h8
    go_enter Try.func64, Try.ntmps64
    go_wp2
    go_ret
    exact ⟨rfl, rfl⟩
  rw [isPow_no h1 h2 h4 h8]
  have e1 : (n == 1) = false := by simpa using h1
  have e2 : (n == 2) = false := by simpa using h2
  have e4 : (n == 4) = false := by simpa using h4
  have e8 : (n == 8) = false := by simpa using h8
  clear h1 h2 h4 h8
  go_enter Try.func64, Try.ntmps64
  go_wp2
  go_ret
  exact ⟨rfl, rfl⟩
theorem isDm_no {x : Dm} (h : isNode x.node = false ∨ isPow x.every = false ∨ inRange 1 32 x.size = false) : isDm x = false := by
  unfold isDm
  rcases h with h | h | h <;> simp [h]
set_option maxRecDepth 100000 in
set_option linter.unusedSimpArgs false in
theorem isDemand_any (x : Dm) (w : World) : Calls Try.prog 62 #[dmVal x] w fun e w' => e = .returned (.bool (isDm x)) ∧ Below w.heap.size w w' := by
  obtain ⟨a, b, c⟩ := x
  have HB := Lib.hid (show Below w.heap.size w (w.alloc (.cells #[.int .i64 a, .int .i64 b, .int .i64 c] 38)) from (Below.refl _ _).alloc (Nat.le_refl _) _)
  have i1 := fun W => isNode_any a W
  have i2 := fun W => isPeriod_any b W
  unfold dmVal
  dsimp only
  cases h1 : isNode a
  · have HE := Lib.hid (isDm_no (x := ⟨a, b, c⟩) (.inl h1))
    rw [h1] at i1
    go_enter Try.func62, Try.ntmps62
    go_wp2_with (go_at_call 84; refine (i1 _).mono ?_; rintro e w1 ⟨rfl, rfl⟩)
    go_ret
    rw [HE.out]
    exact ⟨rfl, HB.out⟩
  rw [h1] at i1
  cases h2 : isPow b
  · have HE := Lib.hid (isDm_no (x := ⟨a, b, c⟩) (.inr (.inl h2)))
    rw [h2] at i2
    go_enter Try.func62, Try.ntmps62
    go_wp2_with (first | (go_at_call 84; refine (i1 _).mono ?_; rintro e w1 ⟨rfl, rfl⟩) | (go_at_call 74; refine (i2 _).mono ?_; rintro e w1 ⟨rfl, rfl⟩))
    go_ret
    rw [HE.out]
    exact ⟨rfl, HB.out⟩
  rw [h2] at i2
  have HE := Lib.hid (show isDm ⟨a, b, c⟩ = inRange 1 32 c from by simp [isDm, h1, h2])
  by_cases h3 : 1 ≤ c
  · by_cases h4 : c ≤ 32
    · have HE2 := Lib.hid (HE.out.trans (show inRange 1 32 c = true from by simp [inRange, h3, h4]))
      go_enter Try.func62, Try.ntmps62
      go_wp2_with (first | (go_at_call 84; refine (i1 _).mono ?_; rintro e w1 ⟨rfl, rfl⟩) | (go_at_call 74; refine (i2 _).mono ?_; rintro e w1 ⟨rfl, rfl⟩))
      go_ret
      rw [HE2.out]
      exact ⟨ret_bool (by simp [h3, h4]), HB.out⟩
    · have HE2 := Lib.hid (HE.out.trans (show inRange 1 32 c = false from by simp [inRange, h4]))
      go_enter Try.func62, Try.ntmps62
      go_wp2_with (first | (go_at_call 84; refine (i1 _).mono ?_; rintro e w1 ⟨rfl, rfl⟩) | (go_at_call 74; refine (i2 _).mono ?_; rintro e w1 ⟨rfl, rfl⟩))
      go_ret
      rw [HE2.out]
      exact ⟨ret_bool (by simp [h3, h4]), HB.out⟩
  · have HE2 := Lib.hid (HE.out.trans (show inRange 1 32 c = false from by simp [inRange, h3]))
    go_enter Try.func62, Try.ntmps62
    go_wp2_with (first | (go_at_call 84; refine (i1 _).mono ?_; rintro e w1 ⟨rfl, rfl⟩) | (go_at_call 74; refine (i2 _).mono ?_; rintro e w1 ⟨rfl, rfl⟩))
    go_ret
    rw [HE2.out]
    exact ⟨rfl, HB.out⟩
/-- The first k of a list are demands. -/
def dmsTo (t : List Dm) (k : Nat) : Prop := ∀ i, i < k → isDm (dmOf t i) = true
theorem areDms_of {t : List Dm} (h : t.length ≤ 40) (hd : dmsTo t t.length) : areDms t = true := by
  rw [areDms_iff]
  refine ⟨h, fun x hx => ?_⟩
  obtain ⟨i, hi, e⟩ := List.getElem_of_mem hx
  have := hd i hi
  rw [dmOf_get hi, e] at this; exact this
theorem areDms_at {t : List Dm} (h : areDms t = true) {i : Nat} (hi : i < t.length) : isDm (dmOf t i) = true := by
  rw [dmOf_get hi]; exact (areDms_iff.1 h).2 _ (List.getElem_mem hi)
theorem areDms_bad {t : List Dm} {i : Nat} (hi : i < t.length) (h : isDm (dmOf t i) = false) : areDms t = false := by
  cases h1 : areDms t with
  | false => rfl
  | true => rw [areDms_at h1 hi] at h; cases h
theorem areDms_long {t : List Dm} (h : 40 < t.length) : areDms t = false := by
  cases h1 : areDms t with
  | false => rfl
  | true => have := (areDms_iff.1 h1).1; omega
theorem areDms_len {t : List Dm} (h : areDms t = true) : t.length ≤ 40 := (areDms_iff.1 h).1
set_option maxHeartbeats 1000000 in
set_option maxRecDepth 100000 in
/-- impl.AreDemands. -/
theorem areDmsI_any (ao : Option Addr) (n cap : Nat) (t : List Dm) (w : World) (hr : RdDm w ao n t) (hn : n ≤ 9223372036854775807) :
    Calls Try.prog 25 #[.slice ao n cap] w fun e w' => e = .returned (.bool (areDms t)) ∧ Below w.heap.size w w' := by
  have HL := Lib.hid hr.len
  have HR := Lib.hid hr; clear hr
  by_cases hbig : (40 : Int) < n
  · have HF := Lib.hid (areDms_long (t := t) (by rw [HL.out]; omega))
    go_enter Try.func25, Try.ntmps25
    go_wp2_with fail
    go_ret
    rw [HF.out]
    exact ⟨rfl, Below.refl _ _⟩
  go_enter Try.func25, Try.ntmps25
  go_wp2_with fail
  go_loopw [10] (fun i wr => ∃ k : Nat, k ≤ n ∧ i = .int .i64 k ∧ Hid (dmsTo t k) ∧ Hid (Below w.heap.size w wr)) (fun i _ => n - (intOf i).toNat)
  case atStart => exact ⟨0, Nat.zero_le _, rfl, fun i h => absurd h (by omega), Below.refl _ _⟩
  case round =>
    obtain ⟨k, hk, rfl, HD, HB⟩ := hrel
    by_cases hlt : k < n
    · obtain ⟨g, off, rfl, hg, hx⟩ := HR.out.at hlt
      replace hx := hx.below HB.out hg
      have hbad := fun h => areDms_bad (t := t) (i := k) (by rw [HL.out]; exact hlt) h
      have hgood : isDm (dmOf t k) = true → dmsTo t (k + 1) := fun h i hi => by
        by_cases e : i = k
        · subst e; exact h
        · exact HD.out i (by omega)
      obtain ⟨x, hxe⟩ : ∃ x, x = dmOf t k := ⟨_, rfl⟩
      rw [← hxe] at hx hbad hgood
      have HBAD := Lib.hid hbad; have HGOOD := Lib.hid hgood
      have HT := Lib.hid (fun W => isDemand_any x W)
      unfold dmVal at HT
      have HB1 := Lib.hid (HB.out.alloc (B := w.heap.size) HB.out.size (.cells #[.int .i64 x.node, .int .i64 x.every, .int .i64 x.size] 38))
      clear hbad hgood hxe hg
      obtain ⟨h0, h1, h2⟩ := hx
      go_wp2_with fail
      refine (HT.out _).mono ?_
      rintro e w2 ⟨rfl, b2⟩
      clear h0 h1 h2
      have HB2 := Lib.hid (below_two HB1.out b2)
      clear b2
      cases hc : isDm x
      · have HF := Lib.hid (HBAD.out hc)
        clear hc
        go_wp2_with fail
        go_ret
        rw [HF.out]
        exact ⟨rfl, HB2.out⟩
      · have HG := Lib.hid (HGOOD.out hc)
        clear hc
        go_wp2_with fail
        go_roundw
        case rel => exact ⟨k + 1, by omega, by go_num, HG, HB2⟩
        case measure => simp [intOf]; omega
    · have hkn : k = n := by omega
      subst hkn
      have HF := Lib.hid (areDms_of (t := t) (by rw [HL.out]; omega) (by rw [HL.out]; exact HD.out))
      go_wp2_with fail
      go_ret
      rw [HF.out]
      exact ⟨rfl, HB.out⟩
set_option maxHeartbeats 2000000 in
set_option maxRecDepth 100000 in
/-- spec.AreDemands. -/
theorem areDmsS_any (ao : Option Addr) (n cap : Nat) (t : List Dm) (w : World) (hr : RdDm w ao n t) (hn : n ≤ 9223372036854775807) :
    Calls Try.prog 26 #[.slice ao n cap] w fun e w' => e = .returned (.bool (areDms t)) ∧ Below w.heap.size w w' := by
  have HL := Lib.hid hr.len
  have HR := Lib.hid hr; clear hr
  go_enter Try.func26, Try.ntmps26
  go_wp2_with fail
  go_loopw [3] (fun i wr => ∃ k : Nat, k ≤ n ∧ i = .int .i64 k ∧ Hid (dmsTo t k) ∧ wr = w) (fun i _ => n - (intOf i).toNat)
  case atStart => exact ⟨0, Nat.zero_le _, rfl, fun i h => absurd h (by omega), rfl⟩
  case round =>
    obtain ⟨k, hk, rfl, HD, rfl⟩ := hrel
    by_cases hlt : k < n
    · obtain ⟨g, off, rfl, hg, hx⟩ := HR.out.at hlt
      have hbad := fun h => areDms_bad (t := t) (i := k) (by rw [HL.out]; exact hlt) h
      have hgood : isDm (dmOf t k) = true → dmsTo t (k + 1) := fun h i hi => by
        by_cases e : i = k
        · subst e; exact h
        · exact HD.out i (by omega)
      obtain ⟨x, hxe⟩ : ∃ x, x = dmOf t k := ⟨_, rfl⟩
      rw [← hxe] at hx hbad hgood
      have HBAD := Lib.hid hbad; have HGOOD := Lib.hid hgood
      clear hbad hgood hxe hg
      obtain ⟨h0, h1, h2⟩ := hx
      have i1 := fun W => l05Node_any x.node W
      have i2 := fun W => l16Power_any x.every W
      have i3 := fun W => l01In_any x.size 1 32 W
      rcases hc1 : isNode x.node with _ | _
      · have HF := Lib.hid (HBAD.out (isDm_no (.inl hc1)))
        rw [hc1] at i1
        clear hc1
        go_wp2_with (first | (go_at_call 63; refine (i1 _).mono ?_; rintro e w1 ⟨rfl, rfl⟩))
        go_ret
        rw [HF.out]
        exact ⟨rfl, Below.refl _ _⟩
      rcases hc2 : isPow x.every with _ | _
      · have HF := Lib.hid (HBAD.out (isDm_no (.inr (.inl hc2))))
        rw [hc1] at i1
        rw [hc2] at i2
        clear hc1 hc2
        go_wp2_with (first | (go_at_call 63; refine (i1 _).mono ?_; rintro e w1 ⟨rfl, rfl⟩) | (go_at_call 64; refine (i2 _).mono ?_; rintro e w1 ⟨rfl, rfl⟩))
        go_ret
        rw [HF.out]
        exact ⟨rfl, Below.refl _ _⟩
      rcases hc3 : inRange 1 32 x.size with _ | _
      · have HF := Lib.hid (HBAD.out (isDm_no (.inr (.inr hc3))))
        rw [hc1] at i1
        rw [hc2] at i2
        rw [hc3] at i3
        clear hc1 hc2 hc3
        go_wp2_with (first | (go_at_call 63; refine (i1 _).mono ?_; rintro e w1 ⟨rfl, rfl⟩) | (go_at_call 64; refine (i2 _).mono ?_; rintro e w1 ⟨rfl, rfl⟩) | (go_at_call 65; refine (i3 _).mono ?_; rintro e w1 ⟨rfl, rfl⟩))
        go_ret
        rw [HF.out]
        exact ⟨rfl, Below.refl _ _⟩
      have HG := Lib.hid (HGOOD.out (by simp [isDm, hc1, hc2, hc3]))
      rw [hc1] at i1
      rw [hc2] at i2
      rw [hc3] at i3
      clear hc1 hc2 hc3
      go_wp2_with (first | (go_at_call 63; refine (i1 _).mono ?_; rintro e w1 ⟨rfl, rfl⟩) | (go_at_call 64; refine (i2 _).mono ?_; rintro e w1 ⟨rfl, rfl⟩) | (go_at_call 65; refine (i3 _).mono ?_; rintro e w1 ⟨rfl, rfl⟩))
      go_roundw
      case rel => exact ⟨k + 1, by omega, by go_num, HG, trivial⟩
      case measure => simp [intOf]; omega
    · have hkn : k = n := by omega
      subst hkn
      have HF := Lib.hid (show areDms t = decide ((k : Int) ≤ 40) from by
        by_cases h : k ≤ 40
        · rw [areDms_of (t := t) (by rw [HL.out]; omega) (by rw [HL.out]; exact HD.out), decide_eq_true (by omega)]
        · rw [areDms_long (by rw [HL.out]; omega), decide_eq_false (by omega)])
      go_wp2_with fail
      go_ret
      rw [HF.out]
      exact ⟨rfl, Below.refl _ _⟩
/-! ### a list and a frame of rounds -/
theorem l16Frame_any (R S : Int) (w : World) : Calls Try.prog 76 #[.int .i64 R, .int .i64 S] w fun e w' => e = .returned (.bool (plFrame R S)) ∧ w = w' := by
  have i1 := fun W => l16Power_any R W
  have i2 := fun W => l01In_any S 1 16 W
  unfold plFrame
  cases h1 : isPow R
  · rw [h1] at i1
    go_enter Try.func76, Try.ntmps76
    go_wp2_with (go_at_call 64; refine (i1 _).mono ?_; rintro e w1 ⟨rfl, rfl⟩)
    go_ret
    exact ⟨rfl, rfl⟩
  · rw [h1] at i1
    go_enter Try.func76, Try.ntmps76
    go_wp2_with (first | (go_at_call 64; refine (i1 _).mono ?_; rintro e w1 ⟨rfl, rfl⟩) | (go_at_call 65; refine (i2 _).mono ?_; rintro e w1 ⟨rfl, rfl⟩))
    go_ret
    exact ⟨rfl, rfl⟩
theorem l16Code_any (ao : Option Addr) (n cap : Nat) (t : List Dm) (R S : Int) (w : World) (hr : RdDm w ao n t) (hn : n ≤ 9223372036854775807) :
    Calls Try.prog 52 #[.slice ao n cap, .int .i64 R, .int .i64 S] w fun e w' => e = .returned (.int .i64 (planCode t R S)) ∧ Below w.heap.size w w' := by
  have i1 := areDmsS_any ao n cap t w hr hn
  have i2 := fun W => l16Frame_any R S W
  unfold planCode
  cases h1 : areDms t
  · rw [h1] at i1
    go_enter Try.func52, Try.ntmps52
    go_wp2_with (go_at_call 26; refine i1.mono ?_; rintro e w1 ⟨rfl, b1⟩)
    go_ret
    exact ⟨rfl, b1⟩
  rw [h1] at i1
  cases h2 : plFrame R S
  · rw [h2] at i2
    go_enter Try.func52, Try.ntmps52
    go_wp2_with (first | (go_at_call 26; refine i1.mono ?_; rintro e w1 ⟨rfl, b1⟩) | (go_at_call 76; refine (i2 _).mono ?_; rintro e w2 ⟨rfl, rfl⟩))
    go_ret
    exact ⟨rfl, b1⟩
  · rw [h2] at i2
    go_enter Try.func52, Try.ntmps52
    go_wp2_with (first | (go_at_call 26; refine i1.mono ?_; rintro e w1 ⟨rfl, b1⟩) | (go_at_call 76; refine (i2 _).mono ?_; rintro e w2 ⟨rfl, rfl⟩))
    go_ret
    exact ⟨rfl, b1⟩
/-! ### the load -/
theorem plLoad_take {t : List Dm} {k : Nat} (h : k < t.length) : plLoad (t.take (k + 1)) = plLoad (t.take k) + 8 / (dmOf t k).every := by
  unfold plLoad
  rw [List.take_succ_eq_append_getElem h, List.map_append, List.sum_append, dmOf_get h]
  simp
theorem plLoad_le {t : List Dm} (h : areDms t = true) (k : Nat) (hk : k ≤ t.length) : 0 ≤ plLoad (t.take k) ∧ plLoad (t.take k) ≤ 8 * k := by
  induction k with
  | zero => simp [plLoad]
  | succ k ih =>
    have ih := ih (by omega)
    rw [plLoad_take (by omega)]
    have h1 := (isDm_iff.1 (areDms_at h (i := k) (by omega))).2.1
    rw [isPow_iff] at h1
    have : 0 ≤ 8 / (dmOf t k).every ∧ 8 / (dmOf t k).every ≤ 8 := by
      rcases h1 with h1 | h1 | h1 | h1 <;> rw [h1] <;> decide
    omega
set_option maxHeartbeats 1000000 in
set_option maxRecDepth 100000 in
theorem loadOfI_any (ao : Option Addr) (n cap : Nat) (t : List Dm) (w : World) (hr : RdDm w ao n t) (hn : n ≤ 9223372036854775807) :
    Calls Try.prog 20 #[.slice ao n cap] w fun e w' => e = .returned (.tuple #[.int .i64 (loadOf t).1, .int .i64 (loadOf t).2]) ∧ Below w.heap.size w w' := by
  have HL := Lib.hid hr.len
  have HR := Lib.hid hr
  have i1 := areDmsI_any ao n cap t w hr hn
  clear hr
  unfold loadOf
  cases h1 : areDms t
  · rw [h1] at i1
    go_enter Try.func20, Try.ntmps20
    go_wp2_with (go_at_call 25; refine i1.mono ?_; rintro e w1 ⟨rfl, b1⟩)
    go_ret2
    exact ⟨rfl, b1⟩
  have HA := Lib.hid h1
  have h40 := areDms_len h1
  rw [HL.out] at h40
  rw [h1] at i1
  clear h1
  go_enter Try.func20, Try.ntmps20
  go_wp2_with (go_at_call 25; refine i1.mono ?_; rintro e w1 ⟨rfl, b1⟩)
  have HB0 := Lib.hid b1; clear b1 i1
  go_loopw [4, 12] (fun a i wr => ∃ (k : Nat) (m : Int), k ≤ n ∧ i = .int .i64 k ∧ a = .int .i64 m ∧ (0 ≤ m ∧ m ≤ 8 * k) ∧ Hid (m = plLoad (t.take k)) ∧ Hid (Below w.heap.size w wr)) (fun _ i _ => n - (intOf i).toNat)
  case atStart => exact ⟨0, 0, Nat.zero_le _, rfl, rfl, by omega, rfl, HB0.out⟩
  case round =>
    clear HB0
    obtain ⟨k, m, hk, rfl, rfl, ⟨hm0, hm1⟩, HM, HB⟩ := hrel
    by_cases hlt : k < n
    · obtain ⟨g, off, rfl, hg, hx⟩ := HR.out.at hlt
      replace hx := hx.below HB.out hg
      have hs := plLoad_take (t := t) (k := k) (by rw [HL.out]; exact hlt)
      have hd := isPow_iff.1 (isDm_iff.1 (areDms_at HA.out (i := k) (by rw [HL.out]; exact hlt))).2.1
      obtain ⟨x, hxe⟩ : ∃ x, x = dmOf t k := ⟨_, rfl⟩
      rw [← hxe, ← HM.out] at hs
      rw [← hxe] at hx hd
      clear hxe hg
      have HB1 := Lib.hid (show Below w.heap.size w (wr.alloc (.cells #[.int .i64 x.node, .int .i64 x.every, .int .i64 x.size] 38)) from HB.out.alloc (B := w.heap.size) HB.out.size _)
      obtain ⟨h0, h1, h2⟩ := hx
      have he : ∃ q : Int, 0 ≤ q ∧ q ≤ 8 ∧ ∃ e : Int, x.every = e ∧ ¬ e = 0 ∧ Int.tdiv 8 e = q ∧ plLoad (t.take (k + 1)) = m + q := by
        refine ⟨8 / x.every, ?_, ?_, x.every, rfl, ?_, ?_, hs⟩ <;> rcases hd with hd | hd | hd | hd <;> rw [hd] <;> decide
      obtain ⟨q, hq0, hq1, d, hde, hd0, hdq, hs2⟩ := he
      (first | rw [hde] at h1 HB1 | rw [hde] at h1)
      have HS2 := Lib.hid hs2
      clear hs hd hs2
      go_wp2_with fail
      clear h0 h1 h2
      go_roundw
      case rel => exact ⟨k + 1, m + q, by omega, by go_num, by go_num, by omega, HS2.out.symm, HB1⟩
      case measure => simp [intOf]; omega
    · have hkn : k = n := by omega
      subst hkn
      have HF := Lib.hid (show m = plLoad t from by have h := HM.out; rw [← HL.out, List.take_length] at h; exact h)
      go_wp2_with fail
      go_ret2
      exact ⟨by rw [HF.out]; rfl, HB.out⟩
set_option maxHeartbeats 1000000 in
set_option maxRecDepth 100000 in
theorem loadOfS_any (ao : Option Addr) (n cap : Nat) (t : List Dm) (w : World) (hr : RdDm w ao n t) (hn : n ≤ 9223372036854775807) :
    Calls Try.prog 44 #[.slice ao n cap] w fun e w' => e = .returned (.tuple #[.int .i64 (loadOf t).1, .int .i64 (loadOf t).2]) ∧ Below w.heap.size w w' := by
  have HL := Lib.hid hr.len
  have HR := Lib.hid hr
  have i1 := areDmsS_any ao n cap t w hr hn
  clear hr
  unfold loadOf
  cases h1 : areDms t
  · rw [h1] at i1
    go_enter Try.func44, Try.ntmps44
    go_wp2_with (go_at_call 26; refine i1.mono ?_; rintro e w1 ⟨rfl, b1⟩)
    go_ret2
    exact ⟨rfl, b1⟩
  have HA := Lib.hid h1
  have h40 := areDms_len h1
  rw [HL.out] at h40
  rw [h1] at i1
  clear h1
  go_enter Try.func44, Try.ntmps44
  go_wp2_with (go_at_call 26; refine i1.mono ?_; rintro e w1 ⟨rfl, b1⟩)
  have HB0 := Lib.hid b1; clear b1 i1
  go_loopw [4, 5] (fun a i wr => ∃ (k : Nat) (m : Int), k ≤ n ∧ i = .int .i64 k ∧ a = .int .i64 m ∧ (0 ≤ m ∧ m ≤ 8 * k) ∧ Hid (m = plLoad (t.take k)) ∧ Hid (Below w.heap.size w wr)) (fun _ i _ => n - (intOf i).toNat)
  case atStart => exact ⟨0, 0, Nat.zero_le _, rfl, rfl, by omega, rfl, HB0.out⟩
  case round =>
    clear HB0
    obtain ⟨k, m, hk, rfl, rfl, ⟨hm0, hm1⟩, HM, HB⟩ := hrel
    by_cases hlt : k < n
    · obtain ⟨g, off, rfl, hg, hx⟩ := HR.out.at hlt
      replace hx := hx.below HB.out hg
      have hs := plLoad_take (t := t) (k := k) (by rw [HL.out]; exact hlt)
      have hd := isPow_iff.1 (isDm_iff.1 (areDms_at HA.out (i := k) (by rw [HL.out]; exact hlt))).2.1
      obtain ⟨x, hxe⟩ : ∃ x, x = dmOf t k := ⟨_, rfl⟩
      rw [← hxe, ← HM.out] at hs
      rw [← hxe] at hx hd
      clear hxe hg
      have HB1 := Lib.hid (show Below w.heap.size w (wr) from HB.out)
      obtain ⟨h0, h1, h2⟩ := hx
      have he : ∃ q : Int, 0 ≤ q ∧ q ≤ 8 ∧ ∃ e : Int, x.every = e ∧ ¬ e = 0 ∧ Int.tdiv 8 e = q ∧ plLoad (t.take (k + 1)) = m + q := by
        refine ⟨8 / x.every, ?_, ?_, x.every, rfl, ?_, ?_, hs⟩ <;> rcases hd with hd | hd | hd | hd <;> rw [hd] <;> decide
      obtain ⟨q, hq0, hq1, d, hde, hd0, hdq, hs2⟩ := he
      (first | rw [hde] at h1 HB1 | rw [hde] at h1)
      have HS2 := Lib.hid hs2
      clear hs hd hs2
      go_wp2_with fail
      clear h0 h1 h2
      go_roundw
      case rel => exact ⟨k + 1, m + q, by omega, by go_num, by go_num, by omega, HS2.out.symm, HB1⟩
      case measure => simp [intOf]; omega
    · have hkn : k = n := by omega
      subst hkn
      have HF := Lib.hid (show m = plLoad t from by have h := HM.out; rw [← HL.out, List.take_length] at h; exact h)
      go_wp2_with fail
      go_ret2
      exact ⟨by rw [HF.out]; rfl, HB.out⟩
end Go.Proofs.Ytbbodgeoenjdkaa
