/-
  Chapter 3: IsFound on both sides (they differ where the order is greater than 5000 and the list is longer).
-/
import Derived.Test.YtfmbefmiglpijaaC3c
import Derived.Test.YtfmbefmiglpijaaC3e
import Derived.Test.YtfmbefmiglpijaaPop
import Derived.Test.YtfmbefmiglpijaaOne
namespace Go.Proofs.Ytfmbefmiglpijaa
open Go.RowKit

theorem onesCount_any (x : Nat) (w : World) (h : x < 16777216) :
    Calls Try.prog 75 #[.int .u64 x] w fun e w' => e = .returned (.int .i64 (Lib.popAux 24 x)) ∧ w = w' := by
  obtain ⟨u1, u2, v1, v2, y3, e1, e2, e3, e4, e5, ⟨c1, d1⟩, ⟨c2, d2⟩, ⟨c3, d3⟩, ⟨c4, d4⟩, ⟨c5, d5⟩, e6⟩ := ones_ints x h
  obtain ⟨R, hR⟩ : ∃ R, R = (Lib.popAux 24 x : Int) := ⟨_, rfl⟩
  rw [← hR] at e6 ⊢
  clear hR
  go_enter Try.func75, Try.ntmps75
  go_wp2
  go_ret
  exact ⟨rfl, rfl⟩

/-- impl.hasEvenCoefficients. -/
theorem hasEven_any (W : Nat) (g : BitVec W) (w : World) (h2 : W ≤ 24) :
    Calls Try.prog 47 #[.agg #[.int .i64 W, .int .i64 g.toNat]] w fun e w' => e = .returned (.bool (decide (weight (bitsOf (g.toNat : Int) W) % 2 = 1))) ∧ Below w.heap.size w w' := by
  have hb0 : Below w.heap.size w (w.alloc (.cells #[.int .i64 W, .int .i64 g.toNat] 25)) := (Below.refl _ _).alloc (Nat.le_refl _) _
  have HB := Lib.hid hb0; clear hb0
  have hl := reg_lt h2 g
  have hx : g.toNat < 16777216 := by omega
  have hw := weight_bound (bitsOf (g.toNat : Int) W) (bitsOf_bits _ _)
  rw [bitsOf_len] at hw
  have hp := pop_weight g h2
  obtain ⟨R, hR⟩ : ∃ R, R = weight (bitsOf (g.toNat : Int) W) := ⟨_, rfl⟩
  rw [← hR] at hw hp ⊢
  obtain ⟨hw0, hw1⟩ := hw
  have hw2 : R ≤ 24 := by omega
  have hd := beq_dec (R % 2) 1
  have HD := Lib.hid hd; clear hd hw1 hR
  have HP := Lib.hid hp; clear hp
  go_enter Try.func47, Try.ntmps47
  go_wp2_with fail
  refine (onesCount_any g.toNat _ hx).mono ?_
  rintro e w' ⟨rfl, rfl⟩
  rw [HP.out]
  go_wp2
  go_ret
  exact ⟨ret_bool HD.out, HB.out⟩
/-- impl.isOrderGreater. -/
theorem orderGreater_any (W : Nat) (g : BitVec W) (d : Int) (w : World) (h1 : 3 ≤ W) (h2 : W ≤ 24) (hg : g.getLsbD 0 = true) :
    Calls Try.prog 48 #[.agg #[.int .i64 W, .int .i64 g.toNat], .int .i64 d] w fun e w' => e = .returned (.bool (decide (5000 < order g ∨ d < (order g : Int)))) ∧ Below w.heap.size w w' := by
  have hb0 : Below w.heap.size w (w.alloc (.cells #[.int .i64 W, .int .i64 g.toNat] 25)) := (Below.refl _ _).alloc (Nat.le_refl _) _
  have HB := Lib.hid hb0; clear hb0
  have ho := orderOf_0 (isCrc_put h1 h2 hg)
  obtain ⟨R, hR⟩ : ∃ R : Nat, R = order g := ⟨_, rfl⟩
  rw [← hR] at ho ⊢
  clear hR
  by_cases hl : R ≤ 5000
  · rw [if_pos hl] at ho
    have HO := Lib.hid ho; clear ho
    have hd : decide (5000 < R ∨ d < (R : Int)) = decide (d < (R : Int)) := by rw [decide_eq_decide]; omega
    rw [hd]; clear hd
    go_enter Try.func48, Try.ntmps48
    go_wp2_with fail
    refine (orderOf_any _ _ _).mono ?_
    rintro e w1 ⟨rfl, b1⟩
    rw [HO.out]
    go_wp2
    go_ret
    exact ⟨rfl, below_two HB.out b1⟩
  · rw [if_neg hl] at ho
    have HO := Lib.hid ho; clear ho
    have hd : decide (5000 < R ∨ d < (R : Int)) = true := by rw [decide_eq_true_eq]; omega
    rw [hd]; clear hd
    go_enter Try.func48, Try.ntmps48
    go_wp2_with fail
    refine (orderOf_any _ _ _).mono ?_
    rintro e w1 ⟨rfl, b1⟩
    rw [HO.out]
    go_wp2
    go_ret
    exact ⟨rfl, below_two HB.out b1⟩

/-- One of the reasons for which an error is found, as the document has it (an order greater than 5000 counts as greater). -/
def reasonI (wd p : Int) (xs : List Int) : Bool :=
  (decide (weight xs % 2 = 1) && decide (weight (bitsOf p wd.toNat) % 2 = 1)) || decide (((burst xs).2 : Int) ≤ wd) || (decide (weight xs = 2) && decide (5000 < order (BitVec.ofNat wd.toNat p.toNat) ∨ ((burst xs).2 : Int) - 1 < (order (BitVec.ofNat wd.toNat p.toNat) : Int)))
def isFoundI (wd p : Int) (xs : List Int) : Bool × Int :=
  if isCrc wd p = false then (false, 1) else if isBits xs = false ∨ weight xs = 0 then (false, 3) else (reasonI wd p xs, 0)
/-- Up to 5001 bits the two are one. -/
theorem isFound_same {wd p : Int} {xs : List Int} (h : xs.length ≤ 5001) : isFoundI wd p xs = isFound wd p xs := by
  unfold isFoundI isFound
  have hr : reasonI wd p xs = reason wd p xs := by
    unfold reasonI reason
    have hl := burst_le xs
    have hd : decide (5000 < order (BitVec.ofNat wd.toNat p.toNat) ∨ ((burst xs).2 : Int) - 1 < (order (BitVec.ofNat wd.toNat p.toNat) : Int)) = decide (((burst xs).2 : Int) - 1 < (order (BitVec.ofNat wd.toNat p.toNat) : Int)) := by
      rw [decide_eq_decide]; omega
    rw [hd]
  rw [hr]
theorem isFound_zero {wd p : Int} {xs : List Int} (h : weight xs = 0) : isFoundI wd p xs = isFound wd p xs := by
  unfold isFoundI isFound
  by_cases hI : isCrc wd p = false
  · rw [if_pos hI, if_pos hI]
  · rw [if_neg hI, if_neg hI, if_pos (Or.inr h), if_pos (Or.inr h)]
theorem burst_weight0 {xs : List Int} (hb : ∀ x ∈ xs, 0 ≤ x ∧ x ≤ 1) : (burst xs).2 = 0 ↔ weight xs = 0 := by
  constructor
  · intro h
    have hk := burst_ok xs xs.length
    change BurstOk xs xs.length (burst xs).1 (burst xs).2 at hk
    rcases hk with ⟨-, -, h3⟩ | ⟨h1, -⟩
    · have e : xs = List.replicate xs.length 0 := List.eq_replicate_iff.2 ⟨rfl, fun x hx => by
        obtain ⟨j, hj, e⟩ := (getD_mem_iff xs x).1 hx
        rw [← e]; exact h3 j hj⟩
      rw [e, weight_zeros]
    · omega
  · intro h
    refine burst_none hb fun j hj e => ?_
    have := weight_pos hb j e
    omega
theorem fi_1 {wd p : Int} {xs : List Int} (h : isCrc wd p = false) : isFoundI wd p xs = (false, 1) := by unfold isFoundI; rw [if_pos h]
theorem fi_3 {wd p : Int} {xs : List Int} (h : isCrc wd p = true) (h2 : isBits xs = false ∨ weight xs = 0) : isFoundI wd p xs = (false, 3) := by unfold isFoundI; rw [if_neg (by simp [h]), if_pos h2]
theorem fi_0 {W : Nat} {g : BitVec W} {xs : List Int} (h : isCrc (W : Int) (g.toNat : Int) = true) (h2 : isBits xs = true) (h3 : weight xs ≠ 0) : isFoundI (W : Int) (g.toNat : Int) xs =
    ((decide (weight xs % 2 = 1) && decide (weight (bitsOf (g.toNat : Int) W) % 2 = 1)) || decide (((burst xs).2 : Int) ≤ (W : Int)) || (decide (weight xs = 2) && decide (5000 < order g ∨ ((burst xs).2 : Int) - 1 < (order g : Int))), 0) := by
  unfold isFoundI reasonI
  rw [if_neg (by simp [h]), if_neg (by simp [h2, h3]), Int.toNat_natCast, Int.toNat_natCast, show BitVec.ofNat W g.toNat = g from by simp]
theorem bo_code {xs : List Int} (h : isBits xs = false ∨ weight xs = 0) : (burstOf xs).2.2 ≠ 0 := by
  rcases hb : isBits xs with _ | _
  · rw [bo_1 hb]; simp
  · have h2 : weight xs = 0 := by rcases h with h | h; · rw [h] at hb; cases hb
                                  · exact h
    rw [bo_4 hb ((burst_weight0 (isBits_iff.1 hb).2).2 h2)]; simp
theorem bo_ok {xs : List Int} (h : isBits xs = true) (h2 : weight xs ≠ 0) : burstOf xs = (((burst xs).1 : Int), ((burst xs).2 : Int), 0) :=
  bo_0 h fun e => h2 ((burst_weight0 (isBits_iff.1 h).2).1 e)

/-- impl.IsFound. -/
theorem isFound_any (wd p : Int) (ao : Option Addr) (n cap : Nat) (xs : List Int) (w : World) (hr : Rd w ao n xs) (hn : n ≤ 1048576) :
    Calls Try.prog 16 #[.agg #[.int .i64 wd, .int .i64 p], .slice ao n cap] w fun e w' => e = .returned (.tuple #[.bool (isFoundI wd p xs).1, .int .i64 (isFoundI wd p xs).2]) ∧ Below w.heap.size w w' := by
  have hb0 : Below w.heap.size w (w.alloc (.cells #[.int .i64 wd, .int .i64 p] 25)) := (Below.refl _ _).alloc (Nat.le_refl _) _
  have HB := Lib.hid hb0; clear hb0
  have HR := Lib.hid hr; clear hr
  have hsc := struct_cells (w := w) wd p 25
  rcases hI : isCrc wd p with _ | _
  · rw [fi_1 hI]
    have HI := Lib.hid hI; clear hI hsc
    go_enter Try.func16, Try.ntmps16
    go_wp2_with fail
    refine (isCrc_any _ _ _).mono ?_
    rintro e w1 ⟨rfl, b1⟩
    rw [HI.out]
    go_wp2
    go_ret2
    exact ⟨rfl, below_two HB.out b1⟩
  · by_cases hbw : isBits xs = false ∨ weight xs = 0
    · rw [fi_3 hI hbw]
      have hc := bo_code hbw
      have HI := Lib.hid hI; clear hI hsc hbw
      obtain ⟨b0, b1, c, hF⟩ : ∃ b0 b1 c, burstOf xs = (b0, b1, c) := ⟨_, _, _, rfl⟩
      rw [hF] at hc
      have t1 : (c != 0) = true := by simpa using hc
      have HF := Lib.hid hF; clear hF hc
      go_enter Try.func16, Try.ntmps16
      go_wp2_with fail
      refine (isCrc_any _ _ _).mono ?_
      rintro e w1 ⟨rfl, b1⟩
      rw [HI.out]
      go_wp2_with fail
      refine (burstOf_any _ _ _ xs _ (HR.out.below (below_two HB.out b1)) hn).mono ?_
      rintro e w' ⟨rfl, rfl⟩
      rw [HF.out]
      go_wp2
      go_ret2
      exact ⟨rfl, below_two HB.out b1⟩
    · obtain ⟨hbt, hw0⟩ := not_or.1 hbw
      have hbt : isBits xs = true := by simpa using hbt
      obtain ⟨W, g, rfl, h1, h2, rfl, hg⟩ := isCrc_get hI
      rw [fi_0 hI hbt hw0]
      have hF := bo_ok hbt hw0
      have hwb := weight_bound xs (isBits_iff.1 hbt).2
      have hlen : xs.length = n := HR.out.len
      have hbl := burst_le xs
      obtain ⟨T, hT⟩ : ∃ T, T = weight xs := ⟨_, rfl⟩
      obtain ⟨E, hE⟩ : ∃ E, E = decide (weight (bitsOf (g.toNat : Int) W) % 2 = 1) := ⟨_, rfl⟩
      obtain ⟨F, L, hL⟩ : ∃ F L, burst xs = (F, L) := ⟨_, _, rfl⟩
      rw [hL] at hF hbl ⊢
      rw [← hT] at hwb ⊢
      rw [← hE]
      simp only at hF hbl ⊢
      obtain ⟨O, hO⟩ : ∃ O, O = decide (5000 < order g ∨ (L : Int) - 1 < (order g : Int)) := ⟨_, rfl⟩
      rw [← hO]
      have hT0 : 0 ≤ T ∧ T ≤ 1048576 := by omega
      obtain ⟨hT0, hT1⟩ := hT0
      have hL1 : L ≤ 1048576 := by omega
      obtain ⟨R, hR⟩ : ∃ R, R = (decide (T % 2 = 1) && E || decide ((L : Int) ≤ (W : Int)) || (decide (T = 2) && O)) := ⟨_, rfl⟩
      rw [← hR]
      have HRR := Lib.hid hR; clear hR
      have HO := Lib.hid hO; clear hO
      have HT := Lib.hid hT; clear hT
      have HE := Lib.hid hE; clear hE
      have HF := Lib.hid hF; clear hF
      have HI := Lib.hid hI; clear hI hbw hw0 hwb hlen hbl hL
      have HZ := Lib.hid (isBits_iff.1 hbt).2; clear hbt
      obtain ⟨hsc0, hsc1⟩ := hsc
      go_enter Try.func16, Try.ntmps16
      go_wp2_with fail
      refine (isCrc_any _ _ _).mono ?_
      rintro e w1 ⟨rfl, b1⟩
      rw [HI.out]
      have hc0 := (b1.cell (p := ⟨w.heap.size, 0, none⟩) (World.block_lt_of_cell? _ _ hsc0)).trans hsc0
      have hc1 := (b1.cell (p := ⟨w.heap.size, 1, none⟩) (World.block_lt_of_cell? _ _ hsc1)).trans hsc1
      have B1 := Lib.hid (below_two HB.out b1)
      clear hsc0 hsc1 b1
      go_wp2_with fail
      refine (burstOf_any _ _ _ xs _ (HR.out.below B1.out) hn).mono ?_
      rintro e w' ⟨rfl, rfl⟩
      rw [HF.out]
      go_wp2_with fail
      refine (weightOf_any _ _ _ xs _ (HR.out.below B1.out) hn HZ.out).mono ?_
      rintro e w' ⟨rfl, rfl⟩
      rw [← HT.out]
      have hwid : (W : Int) ≤ 24 := by omega
      by_cases hodd : T % 2 = 1
      · have t1 : (T % 2 == 1) = true := by simp [hodd]
        have ho2 : ¬ T = 2 := by omega
        have t2 : (T == 2) = false := by simp [ho2]
        have hfin : R = (E || decide ((L : Int) ≤ (W : Int))) := by rw [HRR.out, decide_eq_true hodd, decide_eq_false ho2]; simp
        have HFI := Lib.hid hfin; clear hfin
        clear hodd ho2
        go_wp2_with fail
        refine (hasEven_any W g _ h2).mono ?_
        rintro e w2 ⟨rfl, b2⟩
        rw [← HE.out]
        have hc0' := (b2.cell (p := ⟨w.heap.size, 0, none⟩) (World.block_lt_of_cell? _ _ hc0)).trans hc0
        have B2 := Lib.hid (below_two B1.out b2)
        clear b2 hc0
        cases E
        · by_cases hlw : (L : Int) ≤ (W : Int)
          · have HFJ := Lib.hid (show R = true from by rw [HFI.out]; simpa using hlw)
            go_wp2
            go_ret2
            rw [HFJ.out]
            exact ⟨rfl, B2.out⟩
          · have HFJ := Lib.hid (show R = false from by rw [HFI.out]; simpa using hlw)
            go_wp2
            go_ret2
            rw [HFJ.out]
            exact ⟨rfl, B2.out⟩
        · have HFJ := Lib.hid (show R = true from by rw [HFI.out]; rfl)
          go_wp2
          go_ret2
          rw [HFJ.out]
          exact ⟨rfl, B2.out⟩
      · have t1 : (T % 2 == 1) = false := by simp [hodd]
        have hfin : R = (decide ((L : Int) ≤ (W : Int)) || (decide (T = 2) && O)) := by rw [HRR.out, decide_eq_false hodd]; simp
        have HFI := Lib.hid hfin; clear hfin
        clear hodd
        by_cases hlw : (L : Int) ≤ (W : Int)
        · have HFJ := Lib.hid (show R = true from by rw [HFI.out, decide_eq_true hlw]; rfl)
          go_wp2
          go_ret2
          rw [HFJ.out]
          exact ⟨rfl, B1.out⟩
        · by_cases ht2 : T = 2
          · have t2 : (T == 2) = true := by simp [ht2]
            have HFJ := Lib.hid (show R = O from by rw [HFI.out, decide_eq_false hlw, decide_eq_true ht2]; simp)
            clear ht2
            go_wp2_with fail
            refine (orderGreater_any W g _ _ h1 h2 hg).mono ?_
            rintro e w2 ⟨rfl, b2⟩
            rw [← HO.out]
            go_wp2
            go_ret2
            rw [HFJ.out]
            exact ⟨rfl, below_two B1.out b2⟩
          · have t2 : (T == 2) = false := by simp [ht2]
            have HFJ := Lib.hid (show R = false from by rw [HFI.out, decide_eq_false hlw, decide_eq_false ht2]; simp)
            clear ht2
            go_wp2
            go_ret2
            rw [HFJ.out]
            exact ⟨rfl, B1.out⟩
theorem fs_1 {wd p : Int} {xs : List Int} (h : isCrc wd p = false) : isFound wd p xs = (false, 1) := by unfold isFound; rw [if_pos h]
theorem fs_3 {wd p : Int} {xs : List Int} (h : isCrc wd p = true) (h2 : isBits xs = false ∨ weight xs = 0) : isFound wd p xs = (false, 3) := by unfold isFound; rw [if_neg (by simp [h]), if_pos h2]
theorem fs_0 {W : Nat} {g : BitVec W} {xs : List Int} (h : isCrc (W : Int) (g.toNat : Int) = true) (h2 : isBits xs = true) (h3 : weight xs ≠ 0) : isFound (W : Int) (g.toNat : Int) xs =
    ((decide (weight xs % 2 = 1) && decide (weight (bitsOf (g.toNat : Int) W) % 2 = 1)) || decide (((burst xs).2 : Int) ≤ (W : Int)) || (decide (weight xs = 2) && decide (((burst xs).2 : Int) - 1 < (order g : Int))), 0) := by
  unfold isFound reason
  rw [if_neg (by simp [h]), if_neg (by simp [h2, h3]), Int.toNat_natCast, Int.toNat_natCast, show BitVec.ofNat W g.toNat = g from by simp]
set_option maxRecDepth 100000 in
/-- spec.IsFound. -/
theorem sIsFound_any (wd p : Int) (ao : Option Addr) (n cap : Nat) (xs : List Int) (w : World) (hr : Rd w ao n xs) (hn : n ≤ 1048576) :
    Calls Try.prog 17 #[.agg #[.int .i64 wd, .int .i64 p], .slice ao n cap] w fun e w' => e = .returned (.tuple #[.bool (isFound wd p xs).1, .int .i64 (isFound wd p xs).2]) ∧ Below w.heap.size w w' := by
  have hb0 : Below w.heap.size w (w.alloc (.cells #[.int .i64 wd, .int .i64 p] 25)) := (Below.refl _ _).alloc (Nat.le_refl _) _
  have HB := Lib.hid hb0; clear hb0
  have HR := Lib.hid hr; clear hr
  have hsc := struct_cells (w := w) wd p 25
  rcases hI : isCrc wd p with _ | _
  · rw [fs_1 hI]
    have HI := Lib.hid hI; clear hI hsc
    go_enter Try.func17, Try.ntmps17
    go_wp2_with fail
    refine (sIsCrc_any _ _ _).mono ?_
    rintro e w1 ⟨rfl, b1⟩
    rw [HI.out]
    go_wp2
    go_ret2
    exact ⟨rfl, below_two HB.out b1⟩
  · rcases hbt : isBits xs with _ | _
    · rw [fs_3 hI (.inl hbt)]
      have HI := Lib.hid hI; clear hI hsc
      have HBT := Lib.hid hbt; clear hbt
      go_enter Try.func17, Try.ntmps17
      go_wp2_with fail
      refine (sIsCrc_any _ _ _).mono ?_
      rintro e w1 ⟨rfl, b1⟩
      rw [HI.out]
      go_wp2_with fail
      refine (sIsBits_any _ _ _ _ _ (HR.out.below (below_two HB.out b1)) (by omega)).mono ?_
      rintro e w' ⟨rfl, rfl⟩
      rw [HBT.out]
      go_wp2
      go_ret2
      exact ⟨rfl, below_two HB.out b1⟩
    · have HZ := Lib.hid (isBits_iff.1 hbt).2
      by_cases hw0 : weight xs = 0
      · rw [fs_3 hI (.inr hw0)]
        have HW := Lib.hid hw0; clear hw0
        have HI := Lib.hid hI; clear hI hsc
        have HBT := Lib.hid hbt; clear hbt
        go_enter Try.func17, Try.ntmps17
        go_wp2_with fail
        refine (sIsCrc_any _ _ _).mono ?_
        rintro e w1 ⟨rfl, b1⟩
        rw [HI.out]
        go_wp2_with fail
        refine (sIsBits_any _ _ _ _ _ (HR.out.below (below_two HB.out b1)) (by omega)).mono ?_
        rintro e w' ⟨rfl, rfl⟩
        rw [HBT.out]
        go_wp2_with fail
        refine (sWeight_any _ _ _ xs _ (HR.out.below (below_two HB.out b1)) hn HZ.out).mono ?_
        rintro e w' ⟨rfl, rfl⟩
        rw [HW.out]
        go_wp2
        go_ret2
        exact ⟨rfl, below_two HB.out b1⟩
      · obtain ⟨W, g, rfl, h1, h2, rfl, hg⟩ := isCrc_get hI
        rw [fs_0 hI hbt hw0]
        have hwb := weight_bound xs HZ.out
        have hlen : xs.length = n := HR.out.len
        have hbl := burst_le xs
        have hpb := weight_bound (bitsOf (g.toNat : Int) W) (bitsOf_bits _ _)
        rw [bitsOf_len] at hpb
        obtain ⟨T, hT⟩ : ∃ T, T = weight xs := ⟨_, rfl⟩
        obtain ⟨V, hV⟩ : ∃ V, V = weight (bitsOf (g.toNat : Int) W) := ⟨_, rfl⟩
        obtain ⟨F, L, hL⟩ : ∃ F L, burst xs = (F, L) := ⟨_, _, rfl⟩
        rw [hL] at hbl ⊢
        rw [← hT] at hwb hw0 ⊢
        rw [← hV] at hpb ⊢
        simp only at hbl ⊢
        obtain ⟨O, hO⟩ : ∃ O : Int, O = (order g : Int) := ⟨_, rfl⟩
        rw [← hO]
        have hT0 : 0 ≤ T ∧ T ≤ 1048576 := by omega
        obtain ⟨hT0, hT1⟩ := hT0
        have hV0 : 0 ≤ V ∧ V ≤ 24 := by omega
        obtain ⟨hV0, hV1⟩ := hV0
        have hL1 : L ≤ 1048576 := by omega
        have tw0 : (T == 0) = false := by simpa using hw0
        obtain ⟨R, hR⟩ : ∃ R, R = (decide (T % 2 = 1) && decide (V % 2 = 1) || decide ((L : Int) ≤ (W : Int)) || (decide (T = 2) && decide ((L : Int) - 1 < O))) := ⟨_, rfl⟩
        rw [← hR]
        have HRR := Lib.hid hR; clear hR
        have HO := Lib.hid hO; clear hO
        have HT := Lib.hid hT; clear hT
        have HV := Lib.hid hV; clear hV
        have HL := Lib.hid hL; clear hL
        have HI := Lib.hid hI; clear hI hw0 hwb hlen hbl hpb
        have HBT := Lib.hid hbt; clear hbt
        obtain ⟨hsc0, hsc1⟩ := hsc
        have hwid : (W : Int) ≤ 24 := by omega
        go_enter Try.func17, Try.ntmps17
        go_wp2_with fail
        refine (sIsCrc_any _ _ _).mono ?_
        rintro e w1 ⟨rfl, b1⟩
        rw [HI.out]
        have hc0 := (b1.cell (p := ⟨w.heap.size, 0, none⟩) (World.block_lt_of_cell? _ _ hsc0)).trans hsc0
        have hc1 := (b1.cell (p := ⟨w.heap.size, 1, none⟩) (World.block_lt_of_cell? _ _ hsc1)).trans hsc1
        have B1 := Lib.hid (below_two HB.out b1)
        clear hsc0 hsc1 b1
        go_wp2_with fail
        refine (sIsBits_any _ _ _ _ _ (HR.out.below B1.out) (by omega)).mono ?_
        rintro e w' ⟨rfl, rfl⟩
        rw [HBT.out]
        go_wp2_with fail
        refine (sWeight_any _ _ _ xs _ (HR.out.below B1.out) hn HZ.out).mono ?_
        rintro e w' ⟨rfl, rfl⟩
        rw [← HT.out]
        go_wp2_with fail
        refine (sWeight_any _ _ _ xs _ (HR.out.below B1.out) hn HZ.out).mono ?_
        rintro e w' ⟨rfl, rfl⟩
        rw [← HT.out]
        go_wp2_with fail
        refine (sBurst_any _ _ _ xs _ (HR.out.below B1.out) hn).mono ?_
        rintro e w' ⟨rfl, rfl⟩
        rw [HL.out]
        go_wp2_with fail
        refine (l01Append_any none 0 0 [] _ W _ Rd.nil_ (by omega) (by omega)).mono ?_
        rintro e w2 m2
        rw [List.nil_append] at m2
        obtain ⟨p2, c2, rfl, -, r2, b2⟩ := m2.get
        have hd0 := (b2.cell (p := ⟨w.heap.size, 0, none⟩) (World.block_lt_of_cell? _ _ hc0)).trans hc0
        have hd1 := (b2.cell (p := ⟨w.heap.size, 1, none⟩) (World.block_lt_of_cell? _ _ hc1)).trans hc1
        have B2 := Lib.hid (below_two B1.out b2)
        rw [bitsOf_len] at r2 ⊢
        clear b2 m2 hc0 hc1
        go_wp2_with fail
        refine (sWeight_any _ _ _ _ _ r2 (by omega) (bitsOf_bits _ _)).mono ?_
        rintro e w' ⟨rfl, rfl⟩
        rw [← HV.out]
        clear r2
        by_cases hodd : T % 2 = 1
        · have t1 : (T % 2 == 1) = true := by simp [hodd]
          have ho2 : ¬ T = 2 := by omega
          have t2 : (T == 2) = false := by simp [ho2]
          have hfin : R = (decide (V % 2 = 1) || decide ((L : Int) ≤ (W : Int))) := by rw [HRR.out, decide_eq_true hodd, decide_eq_false ho2]; simp
          have HFI := Lib.hid hfin; clear hfin
          clear hodd ho2
          by_cases hv : V % 2 = 1
          · have t3 : (V % 2 == 1) = true := by simp [hv]
            have HFJ := Lib.hid (show R = true from by rw [HFI.out, decide_eq_true hv]; rfl)
            clear hv
            go_wp2
            go_ret2
            rw [HFJ.out]
            exact ⟨rfl, B2.out⟩
          · have t3 : (V % 2 == 1) = false := by simp [hv]
            have HFK := Lib.hid (show R = decide ((L : Int) ≤ (W : Int)) from by rw [HFI.out, decide_eq_false hv]; rfl)
            clear hv
            by_cases hlw : (L : Int) ≤ (W : Int)
            · have HFJ := Lib.hid (show R = true from by rw [HFK.out]; simpa using hlw)
              go_wp2
              go_ret2
              rw [HFJ.out]
              exact ⟨rfl, B2.out⟩
            · have t4 : decide (L ≤ W) = false := by rw [decide_eq_false_iff_not]; omega
              have HFJ := Lib.hid (show R = false from by rw [HFK.out]; simpa using hlw)
              go_wp2
              go_ret2
              rw [HFJ.out]
              exact ⟨rfl, B2.out⟩
        · have t1 : (T % 2 == 1) = false := by simp [hodd]
          have hfin : R = (decide ((L : Int) ≤ (W : Int)) || (decide (T = 2) && decide ((L : Int) - 1 < O))) := by rw [HRR.out, decide_eq_false hodd]; simp
          have HFI := Lib.hid hfin; clear hfin
          clear hodd
          by_cases hlw : (L : Int) ≤ (W : Int)
          · have HFJ := Lib.hid (show R = true from by rw [HFI.out, decide_eq_true hlw]; rfl)
            go_wp2
            go_ret2
            rw [HFJ.out]
            exact ⟨rfl, B2.out⟩
          · have t4 : decide (L ≤ W) = false := by rw [decide_eq_false_iff_not]; omega
            by_cases ht2 : T = 2
            · have t2 : (T == 2) = true := by simp [ht2]
              have HFJ := Lib.hid (show R = decide ((L : Int) - 1 < O) from by rw [HFI.out, decide_eq_false hlw, decide_eq_true ht2]; simp)
              clear ht2
              go_wp2_with fail
              refine (order_any W g _ h1 h2).mono ?_
              rintro e w3 ⟨rfl, b3⟩
              rw [← HO.out]
              go_wp2
              go_ret2
              rw [HFJ.out]
              exact ⟨rfl, below_two B2.out b3⟩
            · have t2 : (T == 2) = false := by simp [ht2]
              have HFJ := Lib.hid (show R = false from by rw [HFI.out, decide_eq_false hlw, decide_eq_false ht2]; simp)
              clear ht2
              go_wp2
              go_ret2
              rw [HFJ.out]
              exact ⟨rfl, B2.out⟩
end Go.Proofs.Ytfmbefmiglpijaa
