/-
  Chapter 10: the program's reader: a bool, a string.
-/
import Derived.Test.YtpedlofckbplmaaRdT
import Derived.Test.YtpedlofckbplmaaN9
namespace Go.Proofs.Ytpedlofckbplmaa
open Go.RowKit

/-- impl's flag. -/
def GotB (w : World) (p : Nat) (v : Bool) (rest' : List Int) (e : Ending) (w' : World) : Prop := e = .returned (.bool v) ∧ RdrAt w' p rest' ∧ w.grownBy w' (some p)
theorem flag_ok (p : Nat) (rest : List Int) (w : World) (h : RdrAt w p rest) (hs : 1 ≤ rest.length) (hv : rest.getD 0 0 = 0 ∨ rest.getD 0 0 = 1) :
    Calls Try.prog 98 #[.pointer (some ⟨p, 0, none⟩)] w (GotB w p (decide (rest.getD 0 0 = 1)) (rest.drop 1)) := by
  have hcall := number_ok p 1 rest w h hs (by omega)
  rw [byteNum_one hs] at hcall
  obtain ⟨v, hve⟩ : ∃ v, v = rest.getD 0 0 := ⟨_, rfl⟩
  rw [← hve] at hv hcall ⊢
  have HC := Lib.hid hcall; clear hcall hve
  have hreq := fun W => require_ok (.pointer (some ⟨p, 0, none⟩)) W
  have hlt := h.lt
  rcases hv with rfl | rfl
  · have hf0 : (@flag10 false) = 0 := rfl
    have hf1 : (@flag10 true) = 1 := rfl
    go_enter Try.func98, Try.ntmps98
    go_wp2_with fail
    refine HC.out.mono ?_
    rintro e w1 ⟨rfl, hR, hG⟩
    have HR := Lib.hid hR; have HG := Lib.hid hG; clear hR hG
    go_wp2_with fail
    refine (flag_any true _).mono ?_
    rintro e w2 ⟨rfl, b2⟩
    have HR2 := Lib.hid (HR.out.below b2 HR.out.lt); have HG2 := Lib.hid (grown_trans HG.out (grown_of_b b2 _)); clear b2
    rw [hf1]
    go_wp2_with fail
    refine (flag_any false _).mono ?_
    rintro e w3 ⟨rfl, b3⟩
    have HR3 := Lib.hid (HR2.out.below b3 HR2.out.lt); have HG3 := Lib.hid (grown_trans HG2.out (grown_of_b b3 _)); clear b3
    rw [hf0]
    go_wp2_with fail
    refine (hreq _).mono ?_
    rintro e w4 ⟨rfl, rfl⟩
    go_wp2_with fail
    go_ret
    exact ⟨rfl, HR3.out, HG3.out⟩
  · have hf1 : (@flag10 true) = 1 := rfl
    go_enter Try.func98, Try.ntmps98
    go_wp2_with fail
    refine HC.out.mono ?_
    rintro e w1 ⟨rfl, hR, hG⟩
    have HR := Lib.hid hR; have HG := Lib.hid hG; clear hR hG
    go_wp2_with fail
    refine (flag_any true _).mono ?_
    rintro e w2 ⟨rfl, b2⟩
    have HR2 := Lib.hid (HR.out.below b2 HR.out.lt); have HG2 := Lib.hid (grown_trans HG.out (grown_of_b b2 _)); clear b2
    rw [hf1]
    go_wp2_with fail
    refine (flag_any true _).mono ?_
    rintro e w3 ⟨rfl, b3⟩
    have HR3 := Lib.hid (HR2.out.below b3 HR2.out.lt); have HG3 := Lib.hid (grown_trans HG2.out (grown_of_b b3 _)); clear b3
    rw [hf1]
    go_wp2_with fail
    refine (hreq _).mono ?_
    rintro e w4 ⟨rfl, rfl⟩
    go_wp2_with fail
    go_ret
    exact ⟨rfl, HR3.out, HG3.out⟩
theorem flag_short (p : Nat) (rest : List Int) (w : World) (h : RdrAt w p rest) (hs : rest.length < 1) :
    Calls Try.prog 98 #[.pointer (some ⟨p, 0, none⟩)] w (Bad w p) := by
  have HC := Lib.hid (number_bad p 1 rest w h hs); clear h hs
  go_enter Try.func98, Try.ntmps98
  go_wp2_with fail
  refine HC.out.mono ?_
  rintro e w1 ⟨⟨u, v, rfl⟩, g1⟩
  go_wp2_with fail
  exact ⟨rfl, ⟨_, _, rfl⟩, g1⟩
theorem flag_bad (p : Nat) (rest : List Int) (w : World) (h : RdrAt w p rest) (hs : 1 ≤ rest.length) (hv : ¬ (rest.getD 0 0 = 0 ∨ rest.getD 0 0 = 1)) :
    Calls Try.prog 98 #[.pointer (some ⟨p, 0, none⟩)] w (Bad w p) := by
  have hcall := number_ok p 1 rest w h hs (by omega)
  rw [byteNum_one hs] at hcall
  obtain ⟨v, hve⟩ : ∃ v, v = rest.getD 0 0 := ⟨_, rfl⟩
  rw [← hve] at hv hcall
  have HC := Lib.hid hcall; clear hcall hve
  have hreq := fun W => require_bad (.pointer (some ⟨p, 0, none⟩)) W p
  have hv0 : (v == 0) = false := by rw [beq_eq_false_iff_ne]; exact fun e => hv (.inl e)
  have hv1 : (v == 1) = false := by rw [beq_eq_false_iff_ne]; exact fun e => hv (.inr e)
  have hf0 : (@flag10 false) = 0 := rfl
  have hf1 : (@flag10 true) = 1 := rfl
  clear hv
  go_enter Try.func98, Try.ntmps98
  go_wp2_with fail
  refine HC.out.mono ?_
  rintro e w1 ⟨rfl, -, hG⟩
  have HG := Lib.hid hG; clear hG
  go_wp2_with fail
  refine (flag_any true _).mono ?_
  rintro e w2 ⟨rfl, b2⟩
  have HG2 := Lib.hid (grown_trans HG.out (grown_of_b b2 _)); clear b2
  rw [hf1]
  go_wp2_with fail
  refine (flag_any false _).mono ?_
  rintro e w3 ⟨rfl, b3⟩
  have HG3 := Lib.hid (grown_trans HG2.out (grown_of_b b3 _)); clear b3
  rw [hf0]
  go_wp2_with fail
  refine (hreq _).mono ?_
  rintro e w4 ⟨⟨u, v, rfl⟩, g4⟩
  go_wp2_with fail
  exact ⟨rfl, ⟨_, _, rfl⟩, grown_trans HG3.out g4⟩
end Go.Proofs.Ytpedlofckbplmaa
