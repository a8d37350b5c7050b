/-
  Chapter 16: planning, and all bookings given, by the program's planner; a planner made.
-/
import Derived.Test.YtbbodgeoenjdkaaPl5
namespace Go.Proofs.Ytbbodgeoenjdkaa
open Go.RowKit Go.Maps

theorem info_bkP : (Try.prog.info? 31).map (fun i => (i.zero, i.size, i.bytes)) = some (some (bkVal Bk.zero), 2, 16) := by kernel_rfl
theorem OwnBk.kp {E base p q : Nat} {w w' : World} {v : Value} {l : List Bk} (h : OwnBk E w base v l) (hk : Kp w w' p q) (hp : p < base) (hq : q < base) : OwnBk E w' base v l := hk.own h hp hq
theorem BkIn.kp {b off p q : Nat} {w w' : World} {x : Bk} (h : BkIn w b off x) (hk : Kp w w' p q) (h1 : b ≠ p) (h2 : b ≠ q) : BkIn w' b off x := by
  have hb := hk.block b h.lt h1 h2
  have hc : ∀ i, w'.cell? ⟨b, i, none⟩ = w.cell? ⟨b, i, none⟩ := fun i => by simp [World.cell?, hb]
  exact ⟨(hc _).trans h.c0, (hc _).trans h.c1⟩
theorem Kp.low {w w' w'' : World} {p q : Nat} (h : Kp w w' p q) (hb : Below w.heap.size w' w'') : Kp w w'' p q :=
  ⟨hb.os.trans h.os, hb.tape.trans h.tape, hb.output.trans h.output, Nat.le_trans h.size hb.size, fun k hk a b => (hb.block k hk).trans (h.block k hk a b)⟩
/-- What planning has left to do. -/
theorem plPlan_step {T : Tab} {R S k : Nat} {t : List Dm} (hk : k < t.length) : plPlan T R S k (t.drop k) = (plFirst T R S (dmOf t k)).bind fun b => (plPlan (plPut T R (dmOf t k) b (k : Int)) R S (k + 1) (t.drop (k + 1))).map fun l => b :: l := by
  rw [List.drop_eq_getElem_cons hk, ← dmOf_get hk]; rfl
theorem plPlan_done {T : Tab} {R S k : Nat} {t : List Dm} (hk : t.length ≤ k) : plPlan T R S k (t.drop k) = some [] := by
  rw [List.drop_eq_nil_of_le hk]; rfl
theorem plTab_step {T : Tab} {R S k : Nat} {t : List Dm} {bs : List Bk} (hk : k < t.length) (hb : k < bs.length) : plTab T R S k (t.drop k) (bs.drop k) = if plFits T R S (dmOf t k) (bkOf bs k) = true then plTab (plPut T R (dmOf t k) (bkOf bs k) (k : Int)) R S (k + 1) (t.drop (k + 1)) (bs.drop (k + 1)) else none := by
  rw [List.drop_eq_getElem_cons hk, List.drop_eq_getElem_cons hb, ← dmOf_get hk, ← bkOf_get hb]; rfl
theorem plTab_more {T : Tab} {R S k : Nat} {t : List Dm} {bs : List Bk} (hk : t.length ≤ k) (hb : k < bs.length) : plTab T R S k (t.drop k) (bs.drop k) = none := by
  rw [List.drop_eq_nil_of_le hk, List.drop_eq_getElem_cons hb]; rfl
theorem plTab_less {T : Tab} {R S k : Nat} {t : List Dm} {bs : List Bk} (hk : k < t.length) (hb : bs.length ≤ k) : plTab T R S k (t.drop k) (bs.drop k) = none := by
  rw [List.drop_eq_getElem_cons hk, List.drop_eq_nil_of_le hb]; rfl
theorem plTab_done {T : Tab} {R S k : Nat} {t : List Dm} {bs : List Bk} (hk : t.length ≤ k) (hb : bs.length ≤ k) : plTab T R S k (t.drop k) (bs.drop k) = some T := by
  rw [List.drop_eq_nil_of_le hk, List.drop_eq_nil_of_le hb]; rfl
set_option maxHeartbeats 4000000 in
set_option maxRecDepth 100000 in
set_option linter.unusedSimpArgs false in
theorem plan_any (p mb R S : Nat) (T : Tab) (t : List Dm) (w : World) (h : PlAt w p mb R S T t 0) (hn : t.length ≤ 1048576) (hd : ∀ i, i < t.length → isPow (dmOf t i).every = true) (hR : R ≤ 8) (hS : S ≤ 16) :
    Calls Try.prog 51 #[.pointer (some ⟨p, 0, none⟩)] w fun e w' =>
      (∃ l v, plPlan T R S 0 t = some l ∧ e = .returned (.tuple #[v, .int .i64 0]) ∧ OwnBk 31 w' w.heap.size v l ∧ Kp w w' p mb)
      ∨ (plPlan T R S 0 t = none ∧ e = .returned (.tuple #[.slice none 0 0, .int .i64 4]) ∧ Kp w w' p mb) := by
  have hpw := h.lt; have hmw := h.mlt
  have H0 := Lib.hid h; clear h
  have HN0 := Lib.hid (show plPlan T R S 0 t = (plPlan T R S 0 (t.drop 0)).map fun l => ([] : List Bk) ++ l from by simp)
  go_enter Try.func51, Try.ntmps51
  go_wp2
  go_loopw [4, 5] (fun v i wr => ∃ (k : Nat) (bs : List Bk) (U : Tab), i = .int .i64 (k : Int) ∧ k ≤ t.length ∧ bs.length = k ∧ Hid (OwnBk 31 wr w.heap.size v bs) ∧ Hid (PlAt wr p mb R S U t k) ∧ Hid (Kp w wr p mb) ∧ Hid (plPlan T R S 0 t = (plPlan U R S k (t.drop k)).map fun l => bs ++ l)) (fun _ i _ => t.length - (intOf i).toNat)
  case atStart => exact ⟨0, [], T, rfl, Nat.zero_le _, rfl, OwnBk.nil_, H0.out, Kp.refl _ _ _, HN0.out⟩
  case round =>
    clear H0 HN0
    obtain ⟨k, bs, U, rfl, hk, hbl, HO, HP, HK, HE⟩ := hrel
    have cm := HP.out.cm
    obtain ⟨m, hm⟩ : ∃ m, m = t.length - k := ⟨_, rfl⟩
    have HM := Lib.hid HP.out.map
    rw [← hm] at HM
    by_cases hlt : k < t.length
    · have hm0 : (0 : Int) < (m : Int) := by omega
      have HG := Lib.hid (giveFirst_any p mb R S k U t wr HP.out hlt hn (hd k hlt) hR hS)
      have HST := Lib.hid (plPlan_step (T := U) (R := R) (S := S) hlt)
      have hks := HK.out.size
      clear hm
      go_upto_region 5 with (at_len; refine lenF _ rfl _ rfl Try.underlying85 _ _ _ rfl HM.out ?_)
      clear cm hm0 HM
      go_wp2_with fail
      refine HG.out.mono ?_
      rintro e2 w2 (⟨b, hf, rfl, pl2, kp2⟩ | ⟨hf, rfl, b2⟩)
      · unfold bkVal
        have HB2 := Lib.hid (BkBk.new (T := 31) (x := b) w2)
        have hb3 : Below w2.heap.size w2 (w2.alloc (.cells #[.int .i64 b.slot, .int .i64 b.phase] 31)) := (Below.refl _ _).alloc (Nat.le_refl _) _
        have HP3 := Lib.hid (pl2.still hb3)
        have HK3 := Lib.hid ((HK.out.trans kp2).trans (Kp.of_below hb3))
        have HO3 := Lib.hid ((HO.out.kp kp2 hpw hmw).below hb3)
        have HE3 := Lib.hid (show plPlan T R S 0 t = (plPlan (plPut U R (dmOf t k) b (k : Int)) R S (k + 1) (t.drop (k + 1))).map fun l => (bs ++ [b]) ++ l from by
          rw [HE.out, HST.out, hf]
          simp only [Option.bind_some, Option.map_map]
          congr 1
          funext l
          simp)
        clear hb3 pl2 kp2 hf HP HK HO HE HST HG
        go_upto_region 8 with fail
        generalize w2.alloc (.cells #[.int .i64 b.slot, .int .i64 b.phase] 31) = w3 at HB2 HP3 HK3 HO3 ⊢
        obtain ⟨k0, k1⟩ := HB2.out.all
        have hks3 := HK3.out.size
        go_wp2_with (at_builtin; (refine append_bk _ rfl _ _ rfl w.heap.size Try.underlying27 info_bkP _ _ rfl (HO3.out.below ((Below.refl _ _).alloc (Nat.le_refl _) _)) _ _ _ _ rfl (BkBk.new (T := 31) (x := b) w3).in_ (by omega) (by simp; omega) ?_); intro v' w' hown hg)
        have HBX := Lib.hid (((Below.refl w.heap.size w3).alloc (by omega) (.cells #[.int .i64 b.slot, .int .i64 b.phase] 31)).trans hg)
        have HOWN := Lib.hid hown
        have HLN := Lib.hid (show (bs ++ [b]).length = k + 1 from by rw [List.length_append, hbl]; rfl)
        clear hown hg
        go_roundw
        case rel => exact ⟨k + 1, bs ++ [b], _, by go_num, by omega, HLN.out, HOWN.out, HP3.out.below HBX.out hpw hmw, HK3.out.low HBX.out, HE3.out⟩
        case measure => simp [intOf]; omega
      · have HE3 := Lib.hid (show plPlan T R S 0 t = none from by rw [HE.out, HST.out, hf]; rfl)
        have HKF := Lib.hid ((HK.out.trans (Kp.of_below b2)).trans (Kp.of_below (show Below w2.heap.size w2 (w2.alloc (.cells #[.int .i64 0, .int .i64 0] 31)) from (Below.refl _ _).alloc (Nat.le_refl _) _)))
        unfold bkVal Bk.zero
        dsimp only
        go_wp2
        go_ret2
        exact .inr ⟨HE3.out, rfl, HKF.out⟩
    · have hm0 : ¬ (0 : Int) < (m : Int) := by omega
      have hkn : k = t.length := by omega
      have HE3 := Lib.hid (show plPlan T R S 0 t = some bs from by rw [HE.out, plPlan_done (by omega)]; simp)
      clear hm hkn
      go_wp2_with (at_len; refine lenF _ rfl _ rfl Try.underlying85 _ _ _ rfl HM.out ?_)
      go_ret2
      exact .inl ⟨bs, HE3.out, _, rfl, HO.out, HK.out⟩
end Go.Proofs.Ytbbodgeoenjdkaa
