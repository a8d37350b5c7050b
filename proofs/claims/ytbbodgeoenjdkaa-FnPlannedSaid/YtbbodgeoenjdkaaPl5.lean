/-
  Chapter 16: a demand gets the first booking that is possible, by the program's planner.
-/
import Derived.Test.YtbbodgeoenjdkaaPl4
namespace Go.Proofs.Ytbbodgeoenjdkaa
open Go.RowKit Go.Maps

theorem run_field_every (a b c : Int) (w : World) : (Instr.field 38 (.agg #[.int .i64 a, .int .i64 b, .int .i64 c]) 1).run Try.prog w = .ok (.int .i64 b) w := by kernel_rfl
set_option maxHeartbeats 4000000 in
set_option maxRecDepth 100000 in
set_option linter.unusedSimpArgs false in
theorem giveFirst_any (p mb R S k : Nat) (T : Tab) (t : List Dm) (w : World) (h : PlAt w p mb R S T t k) (hk : k < t.length) (hk2 : t.length ≤ 1048576) (hx : isPow (dmOf t k).every = true) (hR : R ≤ 8) (hS : S ≤ 16) :
    Calls Try.prog 75 #[.pointer (some ⟨p, 0, none⟩), .int .i64 (k : Int)] w fun e w' =>
      (∃ b, plFirst T R S (dmOf t k) = some b ∧ e = .returned (.tuple #[bkVal b, .bool true]) ∧ PlAt w' p mb R S (plPut T R (dmOf t k) b (k : Int)) t (k + 1) ∧ Kp w w' p mb)
      ∨ (plFirst T R S (dmOf t k) = none ∧ e = .returned (.tuple #[bkVal Bk.zero, .bool false]) ∧ Below w.heap.size w w') := by
  have HWF := Lib.hid (waitF_at (t := t) (k := k) (i := k) (Nat.le_refl _) hk)
  have HGT := Lib.hid (fun (b : Bk) W (hW : PlAt W p mb R S T t k) => give_true p mb R S k T t b W hW hk hk2 hx hR hS)
  have HGF := Lib.hid (fun (b : Bk) W (hW : PlAt W p mb R S T t k) => give_false p mb R S k T t b W hW hk hk2 hx hR hS)
  have HLK := Lib.hid (fun W (hW : PlAt W p mb R S T t k) => FunMap.look W hW.map false und_i64 Try.underlying85 (zeroDm W) (k : Int) ⟨by omega, by omega⟩)
  obtain ⟨x, hxe⟩ : ∃ x, x = dmOf t k := ⟨_, rfl⟩
  rw [← hxe] at hx HWF HGT HGF ⊢
  have hx2 := isPow_iff.1 hx
  have HPl := Lib.hid (h.still (show Below w.heap.size w (w.alloc (.cells #[.int .i64 0, .int .i64 0] 31)) from (Below.refl _ _).alloc (Nat.le_refl _) _))
  have HB0 := Lib.hid (show Below w.heap.size w (w.alloc (.cells #[.int .i64 0, .int .i64 0] 31)) from (Below.refl _ _).alloc (Nat.le_refl _) _)
  have HK1 := Lib.hid (BkBk.new (T := 31) (x := Bk.zero) w)
  have hpw := h.lt; have hmw := h.mlt
  clear h hxe hx
  obtain ⟨nd, ev, sz⟩ := x
  dsimp only at hx2
  obtain ⟨e, rfl⟩ : ∃ e : Nat, ev = (e : Int) := ⟨ev.toNat, by omega⟩
  have he : 0 < e := by omega
  have he8 : e ≤ 8 := by omega
  clear hx2
  unfold dmVal at HWF
  unfold bkVal at HGT HGF
  dsimp only at HWF
  unfold Bk.zero at HK1
  dsimp only at HK1
  go_enter Try.func75, Try.ntmps75
  go_upto_region 1 with fail
  generalize w.alloc (.cells #[.int .i64 0, .int .i64 0] 31) = w1 at HPl HB0 HK1 ⊢
  have p1 := HPl.out.c1
  go_wp2
  clear p1
  go_loopw [13] (fun i wr => ∃ s : Nat, i = .int .i64 (s : Int) ∧ s ≤ S ∧ Hid (∀ c, c < s → plIn T R S ⟨nd, (e : Int), sz⟩ c = none) ∧ Hid (Below w1.heap.size w1 wr)) (fun i _ => 16 - (intOf i).toNat)
  case atStart => exact ⟨0, rfl, by omega, fun c hc => absurd hc (by omega), Below.refl _ _⟩
  case round =>
    obtain ⟨s, rfl, hs, HN, HB⟩ := hrel
    by_cases hlt : s < S
    · have hlt' : (s : Int) < (S : Int) := by omega
      have HP1 := Lib.hid (HPl.out.still HB.out)
      have hlk := HLK.out wr HP1.out
      rw [HWF.out] at hlk
      dsimp only at hlk
      have cm := HP1.out.cm
      have hfd := run_field_every nd (e : Int) sz wr
      go_wp2
      clear hlk cm hfd
      have HS1 := Lib.hid (fun (h : plIn T R S ⟨nd, (e : Int), sz⟩ s = none) (c : Nat) (hc : c < s + 1) => (by
        by_cases e1 : c = s
        · subst e1; exact h
        · exact HN.out c (by omega) : plIn T R S ⟨nd, (e : Int), sz⟩ c = none))
      go_loopw [23] (fun i wr => ∃ q : Nat, i = .int .i64 (q : Int) ∧ q ≤ e ∧ Hid (∀ c, c < q → plFits T R S ⟨nd, (e : Int), sz⟩ ⟨(s : Int), (c : Int)⟩ = false) ∧ Hid (Below w1.heap.size w1 wr)) (fun i _ => e - (intOf i).toNat)
      case atStart => exact ⟨0, rfl, by omega, fun c hc => absurd hc (by omega), HB.out⟩
      case round =>
        clear HP1 HB
        obtain ⟨q, rfl, hq, HM, HB⟩ := hrel
        by_cases hqe : q < e
        · have hqe' : (q : Int) < (e : Int) := by omega
          have HP1 := Lib.hid (HPl.out.still HB.out)
          have HK2 := Lib.hid (HK1.out.below HB.out HK1.out.lt)
          have HBN := Lib.hid (BkBk.new (T := 31) (x := ⟨(s : Int), (q : Int)⟩) wr)
          have hb2 : Below wr.heap.size wr (wr.alloc (.cells #[.int .i64 (s : Int), .int .i64 (q : Int)] 31)) := (Below.refl _ _).alloc (Nat.le_refl _) _
          have HB2 := Lib.hid (below_two HB.out hb2)
          have HP2 := Lib.hid (HP1.out.still hb2)
          have HK3 := Lib.hid (HK2.out.below hb2 HK2.out.lt)
          clear hb2 HP1 HK2
          go_upto_region 8 with fail
          generalize wr.alloc (.cells #[.int .i64 (s : Int), .int .i64 (q : Int)] 31) = w2 at HBN HB2 HP2 HK3 ⊢
          obtain ⟨k0, k1⟩ := HBN.out.all
          dsimp only at k0 k1
          cases hf : plFits T R S ⟨nd, (e : Int), sz⟩ ⟨(s : Int), (q : Int)⟩
          · have HC := Lib.hid (HGF.out ⟨(s : Int), (q : Int)⟩ w2 HP2.out hf)
            have HMM := Lib.hid (fun (c : Nat) (hc : c < q + 1) => (by
              by_cases e1 : c = q
              · subst e1; exact hf
              · exact HM.out c (by omega) : plFits T R S ⟨nd, (e : Int), sz⟩ ⟨(s : Int), (c : Int)⟩ = false))
            clear hf
            dsimp only at HC
            go_wp2_with (go_at_call 80; refine HC.out.mono ?_; rintro e2 w3 ⟨rfl, b3⟩)
            go_roundw
            case rel => exact ⟨q + 1, by go_num, by omega, HMM.out, below_two HB2.out b3⟩
            case measure => simp [intOf]; omega
          · have HC := Lib.hid (HGT.out ⟨(s : Int), (q : Int)⟩ w2 HP2.out hf)
            have HF := Lib.hid (plFirst_some hlt (plIn_some (by show q < (e : Int).toNat; omega) hf HM.out) HN.out)
            have hne1 : w.heap.size ≠ p := by omega
            have hne2 : w.heap.size ≠ mb := by omega
            clear hf
            dsimp only at HC
            go_upto_region 9 with (go_at_call 80; refine HC.out.mono ?_; rintro e2 w3 ⟨rfl, pl3, kp3⟩)
            have HKN := Lib.hid (HBN.out.kp kp3 (by have := HB.out.size; have := HB0.out.size; omega) (by have := HB.out.size; have := HB0.out.size; omega))
            have HKZ := Lib.hid (HK3.out.kp kp3 hne1 hne2)
            clear k0 k1
            obtain ⟨k0, k1⟩ := HKN.out.all
            obtain ⟨z0, z1⟩ := HKZ.out.all
            have f0 := HKZ.out.f 0; have f1 := HKZ.out.f 1
            dsimp only at k0 k1 z0 z1
            go_wp2
            change bodyPost _ _ _ _ _ (setBk w3 w.heap.size 0 ⟨(s : Int), (q : Int)⟩)
            obtain ⟨y0, y1⟩ := (HKZ.out.put ⟨(s : Int), (q : Int)⟩).all
            dsimp only at y0 y1
            have bs := below_setBk (B := w.heap.size) (w := w3) (off := 0) (Nat.le_refl _) ⟨(s : Int), (q : Int)⟩
            have HPF := Lib.hid (pl3.below (B := w.heap.size) bs hpw hmw)
            have HKF := Lib.hid (show Kp w (setBk w3 w.heap.size 0 ⟨(s : Int), (q : Int)⟩) p mb from by
              have k1 := (Kp.of_below (p := p) (q := mb) HB0.out).trans ((Kp.of_below HB2.out).trans kp3)
              exact ⟨bs.os.trans k1.os, bs.tape.trans k1.tape, bs.output.trans k1.output, Nat.le_trans k1.size bs.size, fun c hc a b => (bs.block c hc).trans (k1.block c hc a b)⟩)
            clear bs pl3 kp3
            generalize setBk w3 w.heap.size 0 ⟨(s : Int), (q : Int)⟩ = w4 at y0 y1 HPF HKF ⊢
            exact bodyPost_ret (v := .tuple #[bkVal ⟨(s : Int), (q : Int)⟩, .bool true]) (by simp [bkVal, results, Try.results75, go_sem, y0, y1]) rfl (.inl ⟨_, HF.out, rfl, HPF.out, HKF.out⟩)
        · have hqn : q = e := by omega
          subst hqn
          have HSS := Lib.hid (HS1.out (plIn_none (fun c hc => HM.out c (by have : (q : Int).toNat = q := Int.toNat_natCast q; dsimp only at hc; omega))))
          go_wp2
          go_roundw
          case rel => exact ⟨s + 1, by go_num, by omega, HSS.out, HB.out⟩
          case measure => simp [intOf]; omega
    · have hsn : s = S := by omega
      subst hsn
      have HF := Lib.hid (plFirst_none HN.out)
      have HKZ := Lib.hid (HK1.out.below HB.out HK1.out.lt)
      obtain ⟨z0, z1⟩ := HKZ.out.all
      have f0 := HKZ.out.f 0; have f1 := HKZ.out.f 1
      dsimp only at z0 z1
      go_wp2
      change bodyPost _ _ _ _ _ (setBk wr w.heap.size 0 Bk.zero)
      obtain ⟨y0, y1⟩ := (HKZ.out.put Bk.zero).all
      unfold Bk.zero at y0 y1
      dsimp only at y0 y1
      have HBF := Lib.hid ((below_two HB0.out HB.out).trans (below_setBk (B := w.heap.size) (w := wr) (off := 0) (Nat.le_refl _) Bk.zero))
      unfold Bk.zero at HBF
      show bodyPost _ _ _ _ _ (setBk wr w.heap.size 0 ⟨0, 0⟩)
      generalize setBk wr w.heap.size 0 ⟨0, 0⟩ = w4 at y0 y1 HBF ⊢
      exact bodyPost_ret (v := .tuple #[bkVal Bk.zero, .bool false]) (by simp [bkVal, Bk.zero, results, Try.results75, go_sem, y0, y1]) rfl (.inr ⟨HF.out, rfl, HBF.out⟩)
end Go.Proofs.Ytbbodgeoenjdkaa
