/-
  Chapter 5: DrawAcknowledgeBy.
-/
import Derived.Test.YtkidhilipeoliaaM8
import Derived.Deep.Cut
import Derived.Deep.RegionHeld3
import Derived.StillTailTactics
namespace Go.Proofs.Ytkidhilipeoliaa
open Go.RowKit

/-- What a draw of four numbers leaves. -/
def DrawnI4 (w : World) (e : Ending) (w' : World) : Prop := ∃ a b c d : Int, e = .returned (.tuple #[.int .i64 a, .int .i64 b, .int .i64 c, .int .i64 d]) ∧ Below w.heap.size w w'
theorem results_tmp4 {fn : Func} {t u v x : Tmp} (h : fn.results = #[.tmp t, .tmp u, .tmp v, .tmp x]) (tmps : Array Value) (P : Program) (w : World) :
    (results fn tmps).run P w = .ok (.tuple #[tmps.getD t undef, tmps.getD u undef, tmps.getD v undef, tmps.getD x undef]) w := by
  simp [results, h]
def vtab3 (a b c : Int) (z : Nat) : Int := if z = 0 then a else if z = 1 then b else c
theorem vtab3_arr (a b c : Int) (z : Nat) (hz : z < 3) : (#[.int .i64 a, .int .i64 b, .int .i64 c] : Array Value)[z]? = some (.int .i64 (vtab3 a b c z)) := by
  match z, hz with
  | 0, _ | 1, _ | 2, _ => rfl
/-- A table of three numbers in block b. -/
def Tab3 (T : Nat) (w : World) (b : Nat) (x y z : Int) : Prop := w.heap[b]? = some (.cells #[.int .i64 x, .int .i64 y, .int .i64 z] T (0, 0))
section
variable {T b : Nat} {w w' : World} {x y z : Int}
theorem Tab3.lt (h : Tab3 T w b x y z) : b < w.heap.size := (Array.getElem?_eq_some_iff.1 h).1
theorem Tab3.cell (h : Tab3 T w b x y z) (i : Nat) (hi : i < 3) : w.cell? ⟨b, i, none⟩ = some (.int .i64 (vtab3 x y z i)) := by
  rw [cell_of_row w b i _ _ (0, 0) h, vtab3_arr x y z i hi]
theorem Tab3.grown {g : Option Nat} (h : Tab3 T w b x y z) (hg : w.grownBy w' g) (hb : g ≠ some b) : Tab3 T w' b x y z := (hg.block b h.lt (fun e => hb e.symm)).trans h
theorem Tab3.new (w : World) : Tab3 T (w.alloc (.cells #[.int .i64 x, .int .i64 y, .int .i64 z] T)) w.heap.size x y z := heap_alloc_new w _
end

set_option maxHeartbeats 1000000 in
set_option maxRecDepth 100000 in
theorem drawAcknowledgeBy_any (ao : Option Addr) (n cap : Nat) (cs : List Int) (w : World) (hr : RdB w w.heap.size ao n cs) (hn : n ≤ 1048576) :
    Calls Try.prog 39 #[.slice ao n cap] w (DrawnI4 w) := by
  have HR := Lib.hid hr; clear hr
  go_enter Try.func39, Try.ntmps39
  go_wp2_with fail
  refine (from_any _ _ _ cs _ HR.out hn).mono ?_
  rintro e w1 ⟨p, rfl, hlo, hs1, hb1⟩
  have HB := Lib.hid hb1
  have hp := hs1.lt
  clear hb1
  go_wp2_with fail
  refine (l05DrawNode_any _ _ hs1).mono ?_
  rintro e w2 ⟨k, rfl, hs2, g2⟩
  go_wp2_with fail
  refine (l05Draw_any _ _ hs2).mono ?_
  rintro e w3 ⟨m, rfl, hs3, g3⟩
  have S3 := Lib.hid hs3
  have G3 := Lib.hid (grown_trans g2 g3)
  clear hs1 hs2 hs3 g2 g3
  go_wp2_with fail
  have hsz3 := G3.out.size
  have A3 := fun o => (Below.refl w3.heap.size w3).alloc (Nat.le_refl _) o
  have S4 := Lib.hid (S3.out.below (A3 (.cells #[.int .i64 m] 2)))
  have G4 := Lib.hid (grown_step G3.out (A3 (.cells #[.int .i64 m] 2)) (by exact hsz3))
  have RV : Hid (Rd (w3.alloc (.cells #[.int .i64 m] 2)) (some ⟨w3.heap.size, 0, none⟩) 1 [m]) := rdV1
  clear A3 S3 G3
  obtain ⟨B3, hB3⟩ : ∃ b, w3.heap.size = b := ⟨_, rfl⟩
  rw [hB3] at RV ⊢
  clear hsz3 hB3
  generalize w3.alloc (.cells #[.int .i64 m] 2) = w4 at S4 G4 RV ⊢
  refine (l05Vector_any _ _ _ _ _ RV.out (by omega)).mono ?_
  rintro e w' ⟨rfl, rfl⟩
  rw [allIn_one]
  clear RV
  cases hv : isVec m with
  | false =>
    clear hv
    go_wp2_with fail
    refine (l05Draw_any _ _ S4.out).mono ?_
    rintro e w5 ⟨x, rfl, hs5, g5⟩
    go_wp2_with fail
    refine (l05Draw_any _ _ hs5).mono ?_
    rintro e w6 ⟨y, rfl, hs6, g6⟩
    go_wp2
    refine bodyPost_ret (results_tmp4 rfl _ _ _) rfl ?_
    exact ⟨_, _, _, _, rfl, below_thrown HB.out (grown_trans (grown_trans G4.out g5) g6) hlo⟩
  | true =>
    obtain ⟨m, rfl, hm⟩ := isVec_nat hv
    clear hv
    go_wp2_with fail
    refine (l05Node_any _ _).mono ?_
    rintro e w' ⟨rfl, rfl⟩
    cases hv : isNode k with
    | false =>
      clear hv
      go_wp2_with fail
      refine (l05Draw_any _ _ S4.out).mono ?_
      rintro e w5 ⟨x, rfl, hs5, g5⟩
      go_wp2_with fail
      refine (l05Draw_any _ _ hs5).mono ?_
      rintro e w6 ⟨y, rfl, hs6, g6⟩
      go_wp2
      refine bodyPost_ret (results_tmp4 rfl _ _ _) rfl ?_
      exact ⟨_, _, _, _, rfl, below_thrown HB.out (grown_trans (grown_trans G4.out g5) g6) hlo⟩
    | true =>
      obtain ⟨k, rfl, hk⟩ := isNode_nat hv
      clear hv
      go_wp2_with fail
      refine (next_any _ _ _ S4.out (by omega)).mono ?_
      rintro e w5 ⟨y, rfl, hy0, hy1, -, hs5, g5⟩
      have S5 := Lib.hid hs5
      have G5 := Lib.hid (grown_trans G4.out g5)
      clear hs5 g5 S4 G4 hy1
      by_cases hpos : 0 < y
      rotate_left
      · go_wp2_with fail
        refine (l05Draw_any _ _ S5.out).mono ?_
        rintro e w6 ⟨x, rfl, hs6, g6⟩
        go_wp2_with fail
        refine (l05Draw_any _ _ hs6).mono ?_
        rintro e w7 ⟨y, rfl, hs7, g7⟩
        go_wp2
        refine bodyPost_ret (results_tmp4 rfl _ _ _) rfl ?_
        exact ⟨_, _, _, _, rfl, below_thrown HB.out (grown_trans (grown_trans G5.out g6) g7) hlo⟩
      have hm1 := setN_lt (b := true) hm hk
      go_wp2_with fail
      refine (l05Set_any m k true _ hm hk).mono ?_
      rintro e w' ⟨rfl, rfl⟩
      go_wp2_with fail
      refine (l05Set_any _ k false _ hm1 hk).mono ?_
      rintro e w' ⟨rfl, rfl⟩
      obtain ⟨a, ha⟩ : ∃ a : Int, ((setN m k true : Nat) : Int) = a := ⟨_, rfl⟩
      obtain ⟨b, hb⟩ : ∃ a : Int, ((setN (setN m k true) k false : Nat) : Int) = a := ⟨_, rfl⟩
      rw [ha, hb]
      clear ha hb hm1 hm hk
      go_wp2_with fail
      refine (l05Draw_any _ _ S5.out).mono ?_
      rintro e w6 ⟨c, rfl, hs6, g6⟩
      have S6 := Lib.hid hs6
      have G6 := Lib.hid (grown_trans G5.out g6)
      clear hs6 g6 S5 G5
      have A6 := (Below.refl w6.heap.size w6).alloc (Nat.le_refl _) (.cells #[.int .i64 a, .int .i64 b, .int .i64 c] 2)
      have S7 := Lib.hid (S6.out.below A6)
      have G7 := Lib.hid (grown_step G6.out A6 (by exact G6.out.size))
      have T7 := Lib.hid (Tab3.new (T := 2) (x := a) (y := b) (z := c) w6)
      have hlt6 := S6.out.lt
      clear A6 S6 G6
      go_wp2_with fail
      obtain ⟨B6, hB6⟩ : ∃ b, w6.heap.size = b := ⟨_, rfl⟩
      rw [hB6] at T7 hlt6 ⊢
      have hB6p : some p ≠ some B6 := by simp; omega
      clear hB6
      generalize w6.alloc (.cells #[.int .i64 a, .int .i64 b, .int .i64 c] 2) = w7 at S7 G7 T7 ⊢
      refine (next_any _ _ _ S7.out (by omega)).mono ?_
      rintro e w8 ⟨z, rfl, hz0, hz1, -, hs8, g8⟩
      obtain ⟨z, rfl⟩ := Int.eq_ofNat_of_zero_le hz0
      have hz3 : z < 3 := by have := hz1 (by omega); omega
      have S8 := Lib.hid hs8
      have G8 := Lib.hid (grown_trans G7.out g8)
      have T8 := Lib.hid (T7.out.grown g8 hB6p)
      clear hs8 g8 S7 G7 T7 hz0 hz1
      have hc8 := T8.out.cell z hz3
      have hz4 : (z : Int) < 3 := by omega
      have hz5 : (0 : Int) ≤ (z : Int) := by omega
      obtain ⟨v, hv⟩ : ∃ v, vtab3 a b c z = v := ⟨_, rfl⟩
      rw [hv] at hc8
      clear hv
      go_upto_region 9 with fail
      clear hc8
      have SD := Lib.hid (S8.out.below (Below.refl w8.heap.size w8).drew)
      have TD := Lib.hid (show Tab3 2 w8.drew B6 a b c from T8.out)
      have GD := Lib.hid (show w1.grownBy w8.drew (some p) from grown_step G8.out (Below.refl w8.heap.size w8).drew (by exact G8.out.size))
      clear S8 T8 G8
      go_region_held3 (fun w' => ∀ i : Nat, i < 3 → w'.cell? ⟨B6, i, none⟩ = some (.int .i64 (vtab3 a b c i))) (first | with_reducible exact fun i hi => TD.out.cell i hi | with_reducible exact fun i hi => T9.out.cell i hi)
        (first
          | (go_at_call 54; (with_reducible refine (next_any p 3 _ SD.out (by omega)).mono ?_); rintro e w9 ⟨x, rfl, hx0, hx1, -, hs9, g9⟩; obtain ⟨x, rfl⟩ := Int.eq_ofNat_of_zero_le hx0; have hx3 : x < 3 := (by have := hx1 (by omega); omega); have G9 := Lib.hid (grown_trans GD.out g9); have T9 := Lib.hid (TD.out.grown g9 hB6p); have hc9 := T9.out.cell x hx3; have hx4 : (x : Int) < 3 := (by omega)))
      go_wp2
      refine bodyPost_ret (results_tmp4 rfl _ _ _) rfl ?_
      exact ⟨_, _, _, _, rfl, below_thrown HB.out G9.out hlo⟩
end Go.Proofs.Ytkidhilipeoliaa
