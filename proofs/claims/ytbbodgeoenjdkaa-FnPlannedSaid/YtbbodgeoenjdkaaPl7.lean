/-
  Chapter 16: all bookings given, by the program's planner.
-/
import Derived.Test.YtbbodgeoenjdkaaPl6
namespace Go.Proofs.Ytbbodgeoenjdkaa
open Go.RowKit Go.Maps

theorem RdBk.kp {w w' : World} {ao : Option Addr} {n p q : Nat} {l : List Bk} (h : RdBk w ao n l) (hk : Kp w w' p q) (hap : ∀ b off, ao = some ⟨b, off, none⟩ → b ≠ p ∧ b ≠ q) : RdBk w' ao n l :=
  ⟨h.len, fun hn => by
    obtain ⟨b, off, e, hc⟩ := h.here hn
    exact ⟨b, off, e, fun i hi => (hc i hi).kp hk (hap b off e).1 (hap b off e).2⟩⟩
set_option maxHeartbeats 4000000 in
set_option maxRecDepth 100000 in
set_option linter.unusedSimpArgs false in
theorem giveAll_any (p mb R S : Nat) (T : Tab) (t : List Dm) (ao : Option Addr) (n cap : Nat) (bs : List Bk) (w : World) (h : PlAt w p mb R S T t 0) (hr : RdBk w ao n bs) (hap : ∀ b off, ao = some ⟨b, off, none⟩ → b ≠ p ∧ b ≠ mb) (hn : t.length ≤ 1048576) (hd : ∀ i, i < t.length → isPow (dmOf t i).every = true) (hR : R ≤ 8) (hS : S ≤ 16) :
    Calls Try.prog 54 #[.pointer (some ⟨p, 0, none⟩), .slice ao n cap] w fun e w' =>
      (∃ U, plTab T R S 0 t bs = some U ∧ e = .returned (.bool true) ∧ PlAt w' p mb R S U t t.length ∧ Kp w w' p mb)
      ∨ (plTab T R S 0 t bs = none ∧ e = .returned (.bool false) ∧ Kp w w' p mb) := by
  have HL := Lib.hid hr.len
  have HR := Lib.hid hr; clear hr
  have H0 := Lib.hid h; clear h
  have HAP := Lib.hid hap; clear hap
  have HN0 := Lib.hid (show plTab T R S 0 t bs = plTab T R S 0 (t.drop 0) (bs.drop 0) from rfl)
  go_enter Try.func54, Try.ntmps54
  go_wp2
  go_loopw [9] (fun i wr => ∃ (k : Nat) (U : Tab), i = .int .i64 (k : Int) ∧ k ≤ n ∧ k ≤ t.length ∧ Hid (PlAt wr p mb R S U t k) ∧ Hid (Kp w wr p mb) ∧ Hid (plTab T R S 0 t bs = plTab U R S k (t.drop k) (bs.drop k))) (fun i _ => n - (intOf i).toNat)
  case atStart => exact ⟨0, T, rfl, Nat.zero_le _, Nat.zero_le _, H0.out, Kp.refl _ _ _, HN0.out⟩
  case round =>
    clear H0 HN0
    obtain ⟨k, U, rfl, hk, hkt, HP, HK, HE⟩ := hrel
    by_cases hlt : k < n
    · have hkb : k < bs.length := by rw [HL.out]; exact hlt
      obtain ⟨g, off, rfl, hg, -⟩ := HR.out.at hlt
      have hx := (HR.out.kp HK.out HAP.out).at hlt
      obtain ⟨g', off', e1, hg', hx⟩ := hx
      cases e1
      obtain ⟨b, hbe⟩ : ∃ b, b = bkOf bs k := ⟨_, rfl⟩
      rw [← hbe] at hx
      have HBE := Lib.hid hbe; clear hbe
      obtain ⟨h0, h1⟩ := hx
      have HBN := Lib.hid (BkBk.new (T := 31) (x := b) wr)
      have hb3 : Below wr.heap.size wr (wr.alloc (.cells #[.int .i64 b.slot, .int .i64 b.phase] 31)) := (Below.refl _ _).alloc (Nat.le_refl _) _
      have HP3 := Lib.hid (HP.out.still hb3)
      have HK3 := Lib.hid (HK.out.trans (Kp.of_below hb3))
      clear hb3 HP HK hg hg'
      go_upto_region 4 with fail
      clear h0 h1
      generalize wr.alloc (.cells #[.int .i64 b.slot, .int .i64 b.phase] 31) = w3 at HBN HP3 HK3 ⊢
      obtain ⟨k0, k1⟩ := HBN.out.all
      by_cases hkt2 : k < t.length
      · have HST := Lib.hid (plTab_step (T := U) (R := R) (S := S) hkt2 hkb)
        rw [← HBE.out] at HST
        cases hf : plFits U R S (dmOf t k) b
        · have HC := Lib.hid (give_false p mb R S k U t b w3 HP3.out hkt2 hn (hd k hkt2) hR hS hf)
          unfold bkVal at HC
          have HF := Lib.hid (show plTab T R S 0 t bs = none from by rw [HE.out, HST.out, hf]; rfl)
          clear hf
          go_wp2_with (go_at_call 80; refine HC.out.mono ?_; rintro e2 w4 ⟨rfl, b4⟩)
          go_ret
          exact .inr ⟨HF.out, rfl, HK3.out.trans (Kp.of_below b4)⟩
        · have HC := Lib.hid (give_true p mb R S k U t b w3 HP3.out hkt2 hn (hd k hkt2) hR hS hf)
          unfold bkVal at HC
          have HF := Lib.hid (show plTab T R S 0 t bs = plTab (plPut U R (dmOf t k) b (k : Int)) R S (k + 1) (t.drop (k + 1)) (bs.drop (k + 1)) from by rw [HE.out, HST.out, hf]; rfl)
          clear hf
          go_wp2_with (go_at_call 80; refine HC.out.mono ?_; rintro e2 w4 ⟨rfl, pl4, kp4⟩)
          go_roundw
          case rel => exact ⟨k + 1, _, by go_num, by omega, by omega, pl4, HK3.out.trans kp4, HF.out⟩
          case measure => simp [intOf]; omega
      · have HC := Lib.hid (give_none p mb R S k U t b w3 HP3.out (by omega) (by omega))
        unfold bkVal at HC
        have HF := Lib.hid (show plTab T R S 0 t bs = none from by rw [HE.out, plTab_more (by omega) hkb])
        go_wp2_with (go_at_call 80; refine HC.out.mono ?_; rintro e2 w4 ⟨rfl, b4⟩)
        go_ret
        exact .inr ⟨HF.out, rfl, HK3.out.trans (Kp.of_below b4)⟩
    · have hkn : n = k := by omega
      have hbl : bs.length ≤ k := by rw [HL.out]; omega
      have cm := HP.out.cm
      obtain ⟨m, hm⟩ : ∃ m, m = t.length - k := ⟨_, rfl⟩
      have HM := Lib.hid HP.out.map
      rw [← hm] at HM
      clear hkn
      by_cases hkt2 : k < t.length
      · have HF := Lib.hid (show plTab T R S 0 t bs = none from by rw [HE.out, plTab_less hkt2 hbl])
        have hne : ((m : Int) == 0) = false := by simp; omega
        clear hm
        go_wp2_with (at_len; refine lenF _ rfl _ rfl Try.underlying85 _ _ _ rfl HM.out ?_)
        go_ret
        exact .inr ⟨HF.out, rfl, HK.out⟩
      · have HF := Lib.hid (show plTab T R S 0 t bs = some U from by rw [HE.out, plTab_done (by omega) hbl])
        have hkt3 : k = t.length := by omega
        have HPF := Lib.hid HP.out
        rw [hkt3] at HPF
        have hm0 : m = 0 := by omega
        subst hm0
        clear hm hkt3
        go_wp2_with (at_len; refine lenF _ rfl _ rfl Try.underlying85 _ _ _ rfl HM.out ?_)
        go_ret
        exact .inl ⟨U, HF.out, rfl, HPF.out, HK.out⟩
end Go.Proofs.Ytbbodgeoenjdkaa
