/-
  Chapter 10: ActiveVector and FindNode of the program and of its model.
-/
import Derived.Test.YtpghbbpidlfelaaN6
namespace Go.Proofs.Ytpghbbpidlfelaa
open Go.RowKit

theorem av_no {t : List Nd} (h : isTable t = false) : activeVector t = (0, 1) := by unfold activeVector; rw [if_neg (by rw [h]; simp)]
theorem av_yes {t : List Nd} (h : isTable t = true) : activeVector t = (((actTo t t.length : Nat) : Int), 0) := by unfold activeVector; rw [if_pos h]
theorem act_pas {t : List Nd} {k : Nat} (h : (ndOf t k).pas = true) : actTo t (k + 1) = actTo t k := by rw [actTo, if_pos h]
theorem act_act {t : List Nd} {k : Nat} (h : (ndOf t k).pas = false) : actTo t (k + 1) = setN (actTo t k) (ndOf t k).id.toNat true := by rw [actTo, if_neg (by rw [h]; simp)]
/-- impl.ActiveVector. -/
theorem activeVector_any (ao : Option Addr) (n cap : Nat) (t : List Nd) (w : World) (hr : RdN w ao n t) (hn : n ≤ cap) (hcap : cap ≤ 9223372036854775807) (hs : smallN t) :
    Calls Try.prog 26 #[.slice ao n cap] w fun e w' => e = .returned (.tuple #[.int .i64 (activeVector t).1, .int .i64 (activeVector t).2]) ∧ Below w.heap.size w w' := by
  have hcall := Lib.hid (isTable_any ao n cap t w hr hn hcap hs)
  rcases ht : isTable t with _ | _
  · rw [av_no ht]
    clear hr hs
    go_enter Try.func26, Try.ntmps26
    go_wp2_with (go_at_call 21; refine hcall.out.mono ?_; rintro e w1 ⟨rfl, b1⟩; rw [ht])
    go_ret2
    exact ⟨rfl, b1⟩
  rw [av_yes ht]
  have HR := Lib.hid hr
  have HL := Lib.hid hr.len
  have HT := Lib.hid ht
  clear hr hs
  go_enter Try.func26, Try.ntmps26
  go_wp2_with (go_at_call 21; refine hcall.out.mono ?_; rintro e w1 ⟨rfl, b1⟩; rw [ht])
  have HR1 := Lib.hid (HR.out.below b1)
  have HB := Lib.hid b1; clear b1 HR hcall
  go_loopw [4, 12] (fun a i wr => ∃ k : Nat, k ≤ n ∧ i = .int .i64 k ∧ a = .int .i64 (actTo t k : Nat) ∧ Below w1.heap.size w1 wr) (fun _ i _ => n - (intOf i).toNat)
  case atStart => exact ⟨0, Nat.zero_le _, rfl, rfl, Below.refl _ _⟩
  case round =>
    obtain ⟨k, hk, rfl, rfl, hb⟩ := hrel
    by_cases hlt : k < n
    · obtain ⟨g, off, rfl, hg, hx⟩ := HR1.out.at hlt
      replace hx := hx.below hb hg
      have hid := (isNd_iff.1 (table_nd HT.out (i := k) (by rw [HL.out]; exact hlt))).1
      have hal := actTo_lt HT.out k (by rw [HL.out]; exact hk)
      have e1 := act_pas (t := t) (k := k)
      have e2 := act_act (t := t) (k := k)
      obtain ⟨a2, ha2⟩ : ∃ a2, a2 = actTo t (k + 1) := ⟨_, rfl⟩
      rw [← ha2] at e1 e2
      obtain ⟨x, hxe⟩ : ∃ x, x = ndOf t k := ⟨_, rfl⟩
      rw [← hxe] at hx hid e1 e2
      obtain ⟨a, ha⟩ : ∃ a, a = actTo t k := ⟨_, rfl⟩
      rw [← ha] at hal e1 e2 ⊢
      have HA2 := Lib.hid ha2; have E1 := Lib.hid e1; have E2 := Lib.hid e2; clear ha2 hxe ha e1 e2
      have HB1 := Lib.hid hb; clear hb
      have bb := fun X => below_two HB1.out ((Below.refl wr.heap.size wr).alloc (Nat.le_refl _) X)
      have BB := Lib.hid bb; clear bb
      obtain ⟨xi, xn, xf, xp⟩ := x
      obtain ⟨h0, h1, h2, h3⟩ := hx
      dsimp only at *
      obtain ⟨q, rfl⟩ := Int.eq_ofNat_of_zero_le hid.1
      have hq : q < 32 := by omega
      clear hid
      rcases xp with _ | _
      · have HE := Lib.hid (E2.out rfl); clear E1 E2
        go_wp2_with (go_at_call 60; refine (with_any _ _ _ hal hq).mono ?_; rintro e w2 ⟨rfl, rfl⟩)
        go_roundw
        case rel => exact ⟨k + 1, by omega, by go_num, by rw [← HA2.out, HE.out, Int.toNat_natCast], BB.out _⟩
        case measure => simp [intOf]; omega
      · have HE := Lib.hid (E1.out rfl); clear E1 E2
        go_wp2_with fail
        go_roundw
        case rel => exact ⟨k + 1, by omega, by go_num, by rw [← HA2.out, HE.out], BB.out _⟩
        case measure => simp [intOf]; omega
    · have hkn : k = n := by omega
      subst hkn
      have HB1 := Lib.hid hb; clear hb
      go_wp2_with fail
      go_ret2
      rw [HL.out]
      exact ⟨rfl, below_two HB.out HB1.out⟩
/-- spec.l10Active. -/
theorem l10Active_any (ao : Option Addr) (n cap : Nat) (t : List Nd) (w : World) (hr : RdN w ao n t) (hn : n ≤ 9223372036854775807) (ht : isTable t = true) :
    Calls Try.prog 61 #[.slice ao n cap] w fun e w' => e = .returned (.int .i64 (actTo t t.length : Nat)) ∧ w = w' := by
  have HR := Lib.hid hr
  have HL := Lib.hid hr.len
  have HT := Lib.hid ht
  clear hr ht
  go_enter Try.func61, Try.ntmps61
  go_wp2_with fail
  go_loopw [3, 4] (fun a i wr => ∃ k : Nat, k ≤ n ∧ i = .int .i64 k ∧ a = .int .i64 (actTo t k : Nat) ∧ wr = w) (fun _ i _ => n - (intOf i).toNat)
  case atStart => exact ⟨0, Nat.zero_le _, rfl, rfl, rfl⟩
  case round =>
    obtain ⟨k, hk, rfl, rfl, rfl⟩ := hrel
    by_cases hlt : k < n
    · obtain ⟨g, off, rfl, hg, hx⟩ := HR.out.at hlt
      have hid := (isNd_iff.1 (table_nd HT.out (i := k) (by rw [HL.out]; exact hlt))).1
      have hal := actTo_lt HT.out k (by rw [HL.out]; exact hk)
      have e1 := act_pas (t := t) (k := k)
      have e2 := act_act (t := t) (k := k)
      obtain ⟨a2, ha2⟩ : ∃ a2, a2 = actTo t (k + 1) := ⟨_, rfl⟩
      rw [← ha2] at e1 e2
      obtain ⟨x, hxe⟩ : ∃ x, x = ndOf t k := ⟨_, rfl⟩
      rw [← hxe] at hx hid e1 e2
      obtain ⟨a, ha⟩ : ∃ a, a = actTo t k := ⟨_, rfl⟩
      rw [← ha] at hal e1 e2 ⊢
      have HA2 := Lib.hid ha2; have E1 := Lib.hid e1; have E2 := Lib.hid e2; clear ha2 hxe ha e1 e2
      obtain ⟨xi, xn, xf, xp⟩ := x
      obtain ⟨h0, h1, h2, h3⟩ := hx
      dsimp only at *
      obtain ⟨q, rfl⟩ := Int.eq_ofNat_of_zero_le hid.1
      have hq : q < 32 := by omega
      clear hid
      rcases xp with _ | _
      · have HE := Lib.hid (E2.out rfl); clear E1 E2
        go_wp2_with (go_at_call 77; refine (l05Set_any _ _ _ _ hal hq).mono ?_; rintro e w2 ⟨rfl, rfl⟩)
        go_roundw
        case rel => exact ⟨k + 1, by omega, by go_num, by rw [← HA2.out, HE.out, Int.toNat_natCast], trivial⟩
        case measure => simp [intOf]; omega
      · have HE := Lib.hid (E1.out rfl); clear E1 E2
        go_wp2_with fail
        go_roundw
        case rel => exact ⟨k + 1, by omega, by go_num, by rw [← HA2.out, HE.out], trivial⟩
        case measure => simp [intOf]; omega
    · have hkn : k = n := by omega
      subst hkn
      go_wp2_with fail
      go_ret
      rw [HL.out]
      exact ⟨rfl, rfl⟩
/-- spec.ActiveVector. -/
theorem sActiveVector_any (ao : Option Addr) (n cap : Nat) (t : List Nd) (w : World) (hr : RdN w ao n t) (hn : n ≤ cap) (hcap : cap ≤ 9223372036854775807) (hs : smallN t) :
    Calls Try.prog 27 #[.slice ao n cap] w fun e w' => e = .returned (.tuple #[.int .i64 (activeVector t).1, .int .i64 (activeVector t).2]) ∧ Below w.heap.size w w' := by
  have hcall := Lib.hid (sIsTable_any ao n cap t w hr hn hcap hs)
  rcases ht : isTable t with _ | _
  · rw [av_no ht]
    clear hr hs
    go_enter Try.func27, Try.ntmps27
    go_wp2_with (go_at_call 22; refine hcall.out.mono ?_; rintro e w1 ⟨rfl, b1⟩; rw [ht])
    go_ret2
    exact ⟨rfl, b1⟩
  rw [av_yes ht]
  have hact := Lib.hid (fun W (h : RdN W ao n t) => l10Active_any ao n cap t W h (by omega) ht)
  have HR := Lib.hid hr
  clear hr hs
  go_enter Try.func27, Try.ntmps27
  go_wp2_with (go_at_call 22; refine hcall.out.mono ?_; rintro e w1 ⟨rfl, b1⟩; rw [ht])
  have hr1 := HR.out.below b1
  refine (hact.out _ hr1).mono ?_
  rintro e w2 ⟨rfl, rfl⟩
  clear hr1
  go_wp2_with fail
  go_ret2
  exact ⟨rfl, b1⟩

/-! ### FindNode -/
theorem fn_no {t : List Nd} {d : Int} (h : isTable t = false) : findNode t d = (Nd.zero, 1) := by unfold findNode; rw [if_neg (by rw [h]; simp)]
/-- None of the first k entries has the Id. -/
def noId (t : List Nd) (d : Int) (k : Nat) : Prop := ∀ i, i < k → (ndOf t i).id ≠ d
theorem noId_succ {t : List Nd} {d : Int} {k : Nat} (h : noId t d k) (h1 : (ndOf t k).id ≠ d) : noId t d (k + 1) := fun i hi => by
  by_cases e : i = k
  · subst e; exact h1
  · exact h i (by omega)
theorem find_hit : ∀ {t : List Nd} {d : Int} {k : Nat}, k < t.length → noId t d k → (ndOf t k).id = d → findIn t d = some (ndOf t k)
  | [], _, _, h, _, _ => by simp at h
  | x :: r, d, 0, _, _, e => by
    have e1 : x.id = d := e
    rw [findIn, if_pos e1]; rfl
  | x :: r, d, k + 1, h, hn, e => by
    have h0 := hn 0 (by omega)
    have e2 : ∀ j, ndOf (x :: r) (j + 1) = ndOf r j := fun j => by simp [ndOf]
    have h1 : noId r d k := fun i hi => by have := hn (i + 1) (by omega); rwa [e2] at this
    rw [e2] at e ⊢
    rw [findIn, if_neg (by simpa [ndOf] using h0)]
    exact find_hit (by simpa using h) h1 e
theorem find_miss : ∀ {t : List Nd} {d : Int}, noId t d t.length → findIn t d = none
  | [], _, _ => rfl
  | x :: r, d, h => by
    have h0 := h 0 (by simp)
    rw [findIn, if_neg (by simpa [ndOf] using h0)]
    refine find_miss fun i hi => ?_
    have := h (i + 1) (by simpa using hi)
    simpa [ndOf] using this
theorem fn_hit {t : List Nd} {d : Int} {k : Nat} (ht : isTable t = true) (h : k < t.length) (h1 : noId t d k) (e : (ndOf t k).id = d) : findNode t d = (ndOf t k, 0) := by
  unfold findNode; rw [if_pos ht, find_hit h h1 e]
theorem fn_miss {t : List Nd} {d : Int} (ht : isTable t = true) (h : noId t d t.length) : findNode t d = (Nd.zero, 4) := by
  unfold findNode; rw [if_pos ht, find_miss h]
def GivesNd (w : World) (r : Nd × Int) (e : Ending) (w' : World) : Prop := e = .returned (.tuple #[ndVal r.1, .int .i64 r.2]) ∧ Below w.heap.size w w'
end Go.Proofs.Ytpghbbpidlfelaa
