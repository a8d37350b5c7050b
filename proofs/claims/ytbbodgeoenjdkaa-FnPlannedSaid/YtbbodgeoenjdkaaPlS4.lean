/-
  Chapter 16: planning and the slots that are needed, by the model.
-/
import Derived.Test.YtbbodgeoenjdkaaPlS3
namespace Go.Proofs.Ytbbodgeoenjdkaa
open Go.RowKit

theorem ownsRow_hi {w w' : World} {base e size n hi : Nat} {v : Value} {cs : List Value} (h : w.ownsRow base e size v n cs) (hb : Below hi w w') (hv : ∀ k, v.ownBlock = some k → k < hi) : w'.ownsRow base e size v n cs := by
  obtain ⟨h1, h2⟩ := h
  refine ⟨h1, ?_⟩
  rcases h2 with h2 | ⟨g, cap, cur, rfl, hg, hh, r⟩
  · exact .inl h2
  · exact .inr ⟨g, cap, cur, rfl, hg, by rw [hb.block g (hv g rfl)]; exact hh, r⟩
theorem DmIn.low {w w' : World} {b off B : Nat} {x : Dm} (h : DmIn w b off x) (hb : Below B w w') (hlt : b < B) : DmIn w' b off x := h.below hb hlt
set_option maxHeartbeats 4000000 in
set_option maxRecDepth 100000 in
set_option linter.unusedSimpArgs false in
/-- spec.l16Plan. -/
theorem l16Plan_any (ao : Option Addr) (n cap : Nat) (t : List Dm) (R S : Nat) (w : World) (hr : RdDm w ao n t) (hn : n ≤ 1048576) (hd : ∀ i, i < t.length → isPow (dmOf t i).every = true) (hR0 : 0 < R) (hR : R ≤ 8) (hS0 : 0 < S) (hS : S ≤ 16) :
    Calls Try.prog 53 #[.slice ao n cap, .int .i64 (R : Int), .int .i64 (S : Int)] w fun e w' =>
      (∃ l v, plPlan tab0 R S 0 t = some l ∧ e = .returned (.tuple #[v, .bool true]) ∧ OwnBk 31 w' w.heap.size v l ∧ Below w.heap.size w w')
      ∨ (plPlan tab0 R S 0 t = none ∧ e = .returned (.tuple #[.slice none 0 0, .bool false]) ∧ Below w.heap.size w w') := by
  have HL := Lib.hid hr.len
  have HR := Lib.hid hr; clear hr
  have HN0 := Lib.hid (show plPlan tab0 R S 0 t = (plPlan tab0 R S 0 (t.drop 0)).map fun l => ([] : List Bk) ++ l from by simp)
  have HFR := Lib.hid (l16Free_any R S w hR hS)
  have HDD := Lib.hid hd; clear hd
  go_enter Try.func53, Try.ntmps53
  go_wp2_with fail
  refine HFR.out.mono ?_
  rintro e w1 ⟨tv, rfl, tb1, b1⟩
  have HB1 := Lib.hid b1
  have hlo := HB1.out.size
  have hal : Below w1.heap.size w1 (w1.alloc (.cells #[] 31)) := (Below.refl _ _).alloc (Nat.le_refl _) _
  have HTB1 := Lib.hid (tb1.below hal)
  have HK1 := Lib.hid (Kr.of_below (lo := w.heap.size) (hi := w1.heap.size) hal)
  have HO1 := Lib.hid (OwnBk.of_alloc_nil (E := 31) (w := w1) (Nat.le_refl w1.heap.size))
  obtain ⟨ta, tc, rfl, -, -⟩ := tb1.get
  clear tb1 b1 hal
  go_upto_region 3 with fail
  generalize w1.alloc (.cells #[] 31) = w2 at HTB1 HK1 HO1 ⊢
  generalize hhi : w1.heap.size = hi at HTB1 HK1 HO1 hlo ⊢
  go_wp2
  go_loopw [9, 10] (fun v i wr => ∃ (k : Nat) (bs : List Bk) (U : Tab), i = .int .i64 (k : Int) ∧ k ≤ n ∧ bs.length = k ∧ Hid (tabOk U) ∧ Hid (OwnBk 31 wr hi v bs) ∧ Hid (TbAt wr w.heap.size hi (.slice ta R tc) R S U) ∧ Hid (Kr w1 wr w.heap.size hi) ∧ Hid (plPlan tab0 R S 0 t = (plPlan U R S k (t.drop k)).map fun l => bs ++ l)) (fun _ i _ => n - (intOf i).toNat)
  case atStart => exact ⟨0, [], tab0, rfl, Nat.zero_le _, rfl, tabOk_zero, HO1.out, HTB1.out, HK1.out, HN0.out⟩
  case round =>
    clear HTB1 HK1 HO1 HN0
    obtain ⟨k, bs, U, rfl, hk, hbl, HU, HO, HT, HK, HE⟩ := hrel
    have HBW := Lib.hid (HB1.out.trans (HK.out.below (by omega)))
    have hks := HK.out.size
    by_cases hlt : k < n
    · have hkt : k < t.length := by rw [HL.out]; exact hlt
      obtain ⟨g, off, rfl, hg, hx⟩ := HR.out.at hlt
      have HX := Lib.hid (fun W (hW : Below w.heap.size w W) => hx.below hW hg)
      have HST := Lib.hid (plPlan_step (T := U) (R := R) (S := S) hkt)
      have hpw := HDD.out k hkt
      have HTN := Lib.hid (fun b => tabOk_put HU.out R (dmOf t k) b k)
      clear hx
      obtain ⟨x, hxe⟩ : ∃ x, x = dmOf t k := ⟨_, rfl⟩
      rw [← hxe] at HX HST hpw HTN
      clear hxe
      have HPW := Lib.hid hpw; clear hpw
      obtain ⟨a5, c5, e9, -, htab⟩ := HT.out.get
      cases e9
      have HC := Lib.hid (l16First_any ta tc R S U x wr htab HU.out HPW.out hR0 hR hS0 hS)
      unfold dmVal at HC
      clear htab
      obtain ⟨h0, h1, h2⟩ := HX.out wr HBW.out
      go_wp2_with fail
      refine HC.out.mono ?_
      clear h0 h1 h2
      rintro e2 w3 (⟨b, hf, rfl, b3⟩ | ⟨hf, rfl, b3⟩)
      · unfold bkVal
        have HF := Lib.hid (plFirst_fits hf)
        have HB2 := Lib.hid (BkBk.new (T := 31) (x := b) w3)
        have hb4 : Below w3.heap.size w3 (w3.alloc (.cells #[.int .i64 b.slot, .int .i64 b.phase] 31)) := (Below.refl _ _).alloc (Nat.le_refl _) _
        have HT4 := Lib.hid ((HT.out.below b3).below hb4)
        have HK4 := Lib.hid ((HK.out.trans (Kr.of_below b3)).trans (Kr.of_below hb4))
        have HO4 := Lib.hid ((HO.out.below b3).below hb4)
        have HE4 := Lib.hid (show plPlan tab0 R S 0 t = (plPlan (plPut U R x b (k : Int)) R S (k + 1) (t.drop (k + 1))).map fun l => (bs ++ [b]) ++ l from by
          rw [HE.out, HST.out, hf]
          simp only [Option.bind_some, Option.map_map]
          congr 1
          funext l
          simp)
        have hgb : hi ≤ w3.heap.size := by have := b3.size; omega
        clear hb4 b3 hf HT HK HO HE HST HC
        go_upto_region 9 with fail
        generalize w3.alloc (.cells #[.int .i64 b.slot, .int .i64 b.phase] 31) = w4 at HB2 HT4 HK4 HO4 ⊢
        generalize w3.heap.size = gb at HB2 hgb ⊢
        have HDb := Lib.hid (show Below w4.heap.size w4 w4.drew from Below.drew (Below.refl _ _))
        have HB5 := Lib.hid (HB2.out.below HDb.out HB2.out.lt)
        have HT5 := Lib.hid (HT4.out.below HDb.out)
        have HK5 := Lib.hid (HK4.out.trans (Kr.of_below HDb.out))
        have HO5 := Lib.hid (HO4.out.below HDb.out)
        have HX5 := Lib.hid (HX.out w4.drew (HB1.out.trans (HK5.out.below (by omega))))
        refine wp_region_held_drew (S := fun w' => (w'.cell? ⟨g, off + k * 3, none⟩ = some (Value.int .i64 x.node) ∧ w'.cell? ⟨g, off + k * 3 + 1, none⟩ = some (Value.int .i64 x.every) ∧ w'.cell? ⟨g, off + k * 3 + 2, none⟩ = some (Value.int .i64 x.size)) ∧ (w'.cell? ⟨gb, 0, none⟩ = some (Value.int .i64 b.slot) ∧ w'.cell? ⟨gb, 1, none⟩ = some (Value.int .i64 b.phase))) (by kernel_rfl) (⟨HX5.out.all, HB5.out.all⟩) (fun hHeld => ?_)
        generalize w4.drew = w5 at HDb HB5 HT5 HK5 HO5 HX5 hHeld ⊢
        have hsz5 : hi ≤ w5.heap.size := by have := HB5.out.lt; omega
        have HPU := Lib.hid (l16Put_any w.heap.size hi (.slice ta R tc) R S U x b k w5 HT5.out hsz5 HF.out HPW.out hR)
        unfold dmVal bkVal at HPU
        refine wpAnyH_take (i := 0) (v := ?_) rfl (by kernel_rfl) (by kernel_rfl) (by kernel_rfl) (fun _ _ _ h => h) (Or.inl ⟨by rfl, ?_⟩) (by assumption) ?_
        rotate_left
        · (intro w hSw; (try dsimp only at hSw); go_simp; (try with_reducible rfl))
        try simp only [List.getElem_toArray, List.getElem_cons_succ, List.getElem_cons_zero, Act.put, List.setIfInBounds_toArray, List.set_cons_zero, List.set_cons_succ]
        refine wpAnyH_take (i := 1) (v := ?_) rfl (by kernel_rfl) (by kernel_rfl) (by kernel_rfl) (fun _ _ _ h => h) (Or.inl ⟨by rfl, ?_⟩) (by assumption) ?_
        rotate_left
        · (intro w hSw; (try dsimp only at hSw); go_simp; (try with_reducible rfl))
        try simp only [List.getElem_toArray, List.getElem_cons_succ, List.getElem_cons_zero, Act.put, List.setIfInBounds_toArray, List.set_cons_zero, List.set_cons_succ]
        refine wpAnyH_take (i := 2) (v := ?_) rfl (by kernel_rfl) (by kernel_rfl) (by kernel_rfl) (fun _ _ _ h => h) (Or.inl ⟨by rfl, ?_⟩) (by assumption) ?_
        rotate_left
        · (intro w hSw; (try dsimp only at hSw); go_simp; (try with_reducible rfl))
        try simp only [List.getElem_toArray, List.getElem_cons_succ, List.getElem_cons_zero, Act.put, List.setIfInBounds_toArray, List.set_cons_zero, List.set_cons_succ]
        refine wpAnyH_take (i := 3) (v := ?_) rfl (by kernel_rfl) (by kernel_rfl) (by kernel_rfl) (fun _ _ _ h => h) (Or.inl ⟨by rfl, ?_⟩) (by assumption) ?_
        rotate_left
        · (intro w hSw; (try dsimp only at hSw); go_simp; (try with_reducible rfl))
        try simp only [List.getElem_toArray, List.getElem_cons_succ, List.getElem_cons_zero, Act.put, List.setIfInBounds_toArray, List.set_cons_zero, List.set_cons_succ]
        refine wpAnyH_take (i := 4) (v := ?_) rfl (by kernel_rfl) (by kernel_rfl) (by kernel_rfl) (fun _ _ _ h => h) (Or.inl ⟨by rfl, ?_⟩) (by assumption) ?_
        rotate_left
        · (intro w hSw; (try dsimp only at hSw); go_simp; (try with_reducible rfl))
        try simp only [List.getElem_toArray, List.getElem_cons_succ, List.getElem_cons_zero, Act.put, List.setIfInBounds_toArray, List.set_cons_zero, List.set_cons_succ]
        refine wpAnyH_take (i := 5) (v := ?_) rfl (by kernel_rfl) (by kernel_rfl) (by kernel_rfl) (fun _ _ _ h => h) (Or.inl ⟨by rfl, ?_⟩) (by assumption) ?_
        rotate_left
        · (intro w hSw; (try dsimp only at hSw); go_simp; (try with_reducible rfl))
        try simp only [List.getElem_toArray, List.getElem_cons_succ, List.getElem_cons_zero, Act.put, List.setIfInBounds_toArray, List.set_cons_zero, List.set_cons_succ]
        refine wpAnyH_take (i := 6) (v := ?_) rfl (by kernel_rfl) (by kernel_rfl) (by kernel_rfl) (fun _ _ _ h => h) (Or.inl ⟨by rfl, ?_⟩) (by assumption) ?_
        rotate_left
        · (intro w hSw; (try dsimp only at hSw); go_simp; (try with_reducible rfl))
        try simp only [List.getElem_toArray, List.getElem_cons_succ, List.getElem_cons_zero, Act.put, List.setIfInBounds_toArray, List.set_cons_zero, List.set_cons_succ]
        refine wpAnyH_ready (rs := [7]) (by kernel_rfl) (by simp) (AllReadyH.cons rfl (fun K hK => ?_) AllReadyH.nil)
        go_simp
        refine HPU.out.mono ?_
        rintro e6 w6 ⟨rfl, tb6, kr6⟩
        have HB6 := Lib.hid (HB5.out.kr kr6 hgb)
        have HK6 := Lib.hid (HK5.out.trans kr6)
        have HO6 := Lib.hid (kr6.own HO5.out (Nat.le_refl _))
        have HT6 := Lib.hid tb6
        have HX6 := Lib.hid (HX.out w6 (HB1.out.trans (HK6.out.below (by omega))))
        clear tb6 kr6
        go_wp2_with fail
        refine hK.out _ _ ?_ (fun hHeld => ?_)
        · exact ⟨HX6.out.all, HB6.out.all⟩
        clear hK K
        try simp only [List.getElem_toArray, List.getElem_cons_succ, List.getElem_cons_zero, Act.put, List.setIfInBounds_toArray, List.set_cons_zero, List.set_cons_succ]
        refine wpAnyH_done (by kernel_rfl) ?_ _
        obtain ⟨k0, k1⟩ := HB6.out.all
        have hs6 := HK6.out.size
        have hs66 : hi ≤ w6.heap.size := by omega
        go_wp2_with (at_builtin; (refine append_bk _ rfl _ _ rfl hi Try.underlying27 info_bkP _ _ rfl (OwnBk.below HO6.out ((Below.refl _ _).alloc (Nat.le_refl _) _)) _ _ _ _ rfl (BkBk.new (T := 31) (x := b) w6).in_ (by omega) (by simp; omega) ?_); intro v' w' hown hg2)
        have HBX := Lib.hid (((Below.refl hi w6).alloc hs66 (.cells #[.int .i64 b.slot, .int .i64 b.phase] 31)).trans hg2)
        have HTF := Lib.hid (show TbAt w' w.heap.size hi (.slice ta R tc) R S (plPut U R x b (k : Int)) from by
          obtain ⟨rs, a1, a2, a3, a4⟩ := HT6.out
          refine ⟨rs, ⟨?_, fun c hc => ?_, a1.apart⟩, a2, a3, a4⟩
          · exact ownsRow_hi a1.row HBX.out a4
          · exact ownsRow_hi (a1.nx c hc) HBX.out (a3 c hc))
        have HKF := Lib.hid (show Kr w1 w' w.heap.size hi from by
          have hb := HBX.out
          have h1 := HK6.out
          exact ⟨hb.os.trans h1.os, hb.tape.trans h1.tape, hb.output.trans h1.output, Nat.le_trans h1.size hb.size, fun q hq a => (hb.block q (by rw [hhi] at hq; exact hq)).trans (h1.block q hq a)⟩)
        have HLN := Lib.hid (show (bs ++ [b]).length = k + 1 from by rw [List.length_append, hbl]; rfl)
        have HOF := Lib.hid hown
        clear hown hg2
        go_roundw
        case rel => exact ⟨k + 1, bs ++ [b], _, by go_num, by omega, HLN.out, HTN.out b, HOF.out, HTF.out, HKF.out, HE4.out⟩
        case measure => simp [intOf]; omega
      · have HE3 := Lib.hid (show plPlan tab0 R S 0 t = none from by rw [HE.out, HST.out, hf]; rfl)
        have HBF := Lib.hid (below_two (below_two HBW.out b3) (show Below w3.heap.size w3 (w3.alloc (.cells #[.int .i64 0, .int .i64 0] 31)) from (Below.refl _ _).alloc (Nat.le_refl _) _))
        unfold bkVal Bk.zero
        dsimp only
        go_wp2
        go_ret2
        exact .inr ⟨HE3.out, rfl, HBF.out⟩
    · have hkn : k = n := by omega
      have HE3 := Lib.hid (show plPlan tab0 R S 0 t = some bs from by rw [HE.out, plPlan_done (by rw [HL.out]; omega)]; simp)
      have HOF := Lib.hid (HO.out.more hlo)
      clear hkn
      go_wp2
      go_ret2
      exact .inl ⟨bs, _, HE3.out, rfl, HOF.out, HBW.out⟩
end Go.Proofs.Ytbbodgeoenjdkaa
