/-
  The walk of laws.FnOrders: at every input it returns true and writes nothing that was there.
-/
import Derived.Test.YtfmbefmiglpijaaRows
import Derived.Test.YtfmbefmiglpijaaC3k
import Derived.WalkKit
import Derived.ProofKit
import Derived.OpenShut
import Derived.ShutString
import Derived.ChangeOld
import Derived.Below
namespace Go.Proofs.Ytfmbefmiglpijaa.fnOrders
open Go.ChangeShapes Go.WideShapes Go.ChangeAt Go.RowKit
open Go.ChangeMaps (open_string shut_string)
set_option linter.unusedVariables false


/-- WHAT THE WALK IS TOLD OF A SLICE OF INTEGERS THAT CAME IN: it is nil; or it leads to a row of 'cap' cells, the numbers 'zs' (the first 'len' are its elements, the rest its spare room), each fitting its kind. -/
def IsRow (k : IntKind) (w : World) (a : Option Addr) (len cap : Nat) (zs : List Int) : Prop :=
  (a = none ∧ len = 0 ∧ cap = 0 ∧ zs = []) ∨
  ∃ x, a = some x ∧ len ≤ cap ∧ cap ≤ maxLen ∧ zs.length = cap ∧ (∀ i, i < zs.length → w.cell? (x.add i) = some (.int k (zs.getD i 0))) ∧ ∀ n ∈ zs, (Lit.int k n).wf = true

/-! ### STEP 1: THE WALK: the Go text returns true, AND WRITES NOTHING THAT WAS THERE: 'Below w.heap.size w w'' (Derived/Below.lean: '.refl', '.alloc', '.drew', '.setCell' at a new block, '.trans'). Open each 'IsRow' by 'rcases' AHEAD of 'go_enter'; part every test ahead of the walk. -/
set_option maxHeartbeats 1000000 in
theorem walk (a0 : Option Addr) (len0 cap0 : Nat) (z0 : List Int) (w : World) (w0 : IsRow .u8 w a0 len0 cap0 z0) :
    Calls Try.prog 5 #[.slice a0 len0 cap0] w fun e w' => e = .returned (.bool true) ∧ Below w.heap.size w w' := by
  have hr := rdB_of_row w0
  clear w0
  generalize List.take len0 z0 = cs at hr
  have HR := Lib.hid hr; clear hr
  by_cases hbig : len0 ≤ 4096
  · go_enter Try.func5, Try.ntmps5
    go_wp2_with fail
    refine (big_no _ _ _ _ hbig).mono ?_
    rintro e w' ⟨rfl, rfl⟩
    go_wp2_with fail
    refine (drawOrderOf_any _ _ _ cs _ HR.out (by omega)).mono ?_
    rintro e w1 ⟨wd, pl, rfl, b1⟩
    have K := StructAt.new (T := 25) (x := wd) (y := pl) w1
    have B1 := b1.alloc b1.size (.cells #[.int .i64 wd, .int .i64 pl] 25)
    obtain ⟨C, hC⟩ : ∃ C, C = w1.heap.size := ⟨_, rfl⟩
    obtain ⟨r0, r1, hF⟩ : ∃ r0 r1, orderOf wd pl = (r0, r1) := ⟨_, _, rfl⟩
    have HF := Lib.hid hF; clear hF
    clear b1
    go_upto_region 4 with fail
    generalize w1.alloc (.cells #[.int .i64 wd, .int .i64 pl] 25) = w2 at K B1 ⊢
    rw [← hC] at K ⊢
    clear hC
    have B1 := Lib.hid B1
    have K := Lib.hid K
    have hc0 := K.out.c0
    have hc1 := K.out.c1
    go_wp2_with fail
    clear hc0 hc1
    refine (orderOf_any _ _ _).mono ?_
    rintro e w3 ⟨rfl, b3⟩
    rw [HF.out]
    have K3 := Lib.hid (K.out.below b3 K.out.lt)
    have B3 := Lib.hid (below_two B1.out b3)
    clear K B1 b3
    have hc0 := K3.out.c0
    have hc1 := K3.out.c1
    go_wp2_with fail
    clear hc0 hc1
    refine (sOrderOf_any _ _ _).mono ?_
    rintro e w4 ⟨rfl, b4⟩
    rw [HF.out]
    have K4 := Lib.hid (K3.out.below b4 K3.out.lt)
    have B4 := Lib.hid (below_two B3.out b4)
    clear K3 B3 b4
    have hxx : (r1 != r1) = false := by simp
    have hyy : (r0 != r0) = false := by simp
    by_cases hr1 : r1 = 0
    · subst hr1
      obtain ⟨W, g, N, rfl, rfl, rfl, h1, h2, hg, hN1, hN2, ht, hne⟩ := order_get HF.out
      have hpm := pair_set h1 h2 hg N hN1 hN2
      rw [decide_eq_true ht] at hpm
      have HPM := Lib.hid hpm; clear hpm
      have hkm := fun k (hk1 : 1 ≤ k) (hk2 : k ≤ N) => pair_set h1 h2 hg k hk1 (by omega)
      have HKM := Lib.hid hkm; clear hkm
      have HNE := Lib.hid hne; clear hne
      have HT := Lib.hid ht; clear ht HF
      have hNb : (N : Int) < ((N + 1 : Nat) : Int) := by omega
      have hNc : (0 : Int) < ((N + 1 : Nat) : Int) := by omega
      obtain ⟨M, hM⟩ : ∃ M, M = N + 1 := ⟨_, rfl⟩
      have hMI : (N : Int) + 1 = (M : Int) := by omega
      have hM2 : N < M := by omega
      have hM3 : M ≤ 5001 := by omega
      rw [← hM] at hNb hNc HPM
      have HKK := Lib.hid hM; clear hM
      go_upto_region 11 with (at_make; refine make_cap _ rfl _ _ rfl w4.heap.size Try.underlying26 info64 _ _ _ _ M M rfl rfl (by omega) (by omega) (Nat.le_refl _) (by omega) (Nat.le_refl _) ?_; intro w5 o5 b5)
      obtain ⟨hd1, hf1, o6, b6⟩ := own_store o5 (by simp) (k := 0) (by omega) 1
      have O6 := Lib.hid o6
      have B6 := Lib.hid (b5.trans b6)
      clear o5 o6 b5 b6
      obtain ⟨z1, hz1⟩ : ∃ z, z = (List.replicate M (0 : Int)).getD 0 0 := ⟨_, rfl⟩
      rw [← hz1] at hd1
      clear hz1
      go_upto_region 12 with fail
      clear hd1 hf1
      generalize w5.setCell ⟨w4.heap.size, 0, none⟩ (.int .i64 1) = w6 at O6 B6 ⊢
      obtain ⟨hd1, hf1, o7, b7⟩ := own_store O6.out (by simp) (k := N) hM2 1
      have O7 := Lib.hid o7
      have B7 := Lib.hid (B6.out.trans b7)
      clear o7 b7 O6 B6
      obtain ⟨z1, hz1⟩ : ∃ z, z = ((List.replicate M (0 : Int)).set 0 1).getD N 0 := ⟨_, rfl⟩
      rw [← hz1] at hd1
      clear hz1
      go_upto_region 13 with fail
      clear hd1 hf1
      generalize w6.setCell ⟨w4.heap.size, N, none⟩ (.int .i64 1) = w7 at O7 B7 ⊢
      have B8 := Lib.hid (below_two B4.out B7.out)
      go_wp2_with fail
      refine (roll_any _ _ _ cs _ _ (rdB_grow HR.out B8.out) (by omega)).mono ?_
      rintro e w8 ⟨d, rfl, hd, hs8, b8⟩
      go_wp2_with fail
      refine (below_any d _ _ hs8 (by omega) (by omega)).mono ?_
      rintro e w9 ⟨x, rfl, hx0, hx1, -, g9⟩
      have hb9 := below_thrown b8 g9 hd
      have O9 := Lib.hid (O7.out.below hb9)
      have B9 := Lib.hid (below_two B7.out hb9)
      clear hb9 b8 g9 hd hs8 O7 B7 B8
      obtain ⟨k, hk⟩ : ∃ k : Nat, 1 + x = (k : Int) := ⟨(1 + x).toNat, by omega⟩
      have hk1 : 1 ≤ k := by omega
      have hk2 : k ≤ N := by omega
      have hpk := HKM.out k hk1 hk2
      have hdk : decide (tail g k = g) = decide (k = N) := by
        rw [decide_eq_decide]
        constructor
        · intro h
          exact Classical.byContradiction fun hne => HNE.out k hk1 (by omega) h
        · intro h; rw [h]; exact HT.out
      rw [hdk] at hpk
      clear hdk hx0 hx1
      have hNb2 : (k : Int) < ((k + 1 : Nat) : Int) := by omega
      have hNc2 : (0 : Int) < ((k + 1 : Nat) : Int) := by omega
      obtain ⟨L, hL⟩ : ∃ L, L = k + 1 := ⟨_, rfl⟩
      have hLI : (k : Int) + 1 = (L : Int) := by omega
      have hL2 : k < L := by omega
      have hL3 : L ≤ 5001 := by omega
      rw [← hL] at hNb2 hNc2 hpk
      have HPK := Lib.hid hpk; clear hpk
      have HLL := Lib.hid hL; clear hL
      go_upto_region 15 with (at_make; refine make_cap _ rfl _ _ rfl w9.heap.size Try.underlying26 info64 _ _ _ _ L L rfl rfl (by omega) (by omega) (Nat.le_refl _) (by omega) (Nat.le_refl _) ?_; intro w10 o10 b10)
      obtain ⟨hd1, hf1, o11, b11⟩ := own_store o10 (by simp) (k := 0) (by omega) 1
      have O11 := Lib.hid o11
      have B11 := Lib.hid (b10.trans b11)
      clear o10 o11 b10 b11
      obtain ⟨z1, hz1⟩ : ∃ z, z = (List.replicate L (0 : Int)).getD 0 0 := ⟨_, rfl⟩
      rw [← hz1] at hd1
      clear hz1
      go_upto_region 16 with fail
      clear hd1 hf1
      generalize w10.setCell ⟨w9.heap.size, 0, none⟩ (.int .i64 1) = w11 at O11 B11 ⊢
      obtain ⟨hd1, hf1, o12, b12⟩ := own_store O11.out (by simp) (k := k) hL2 1
      have O12 := Lib.hid o12
      have B12 := Lib.hid (B11.out.trans b12)
      clear o12 b12 O11 B11
      obtain ⟨z1, hz1⟩ : ∃ z, z = ((List.replicate L (0 : Int)).set 0 1).getD k 0 := ⟨_, rfl⟩
      rw [← hz1] at hd1
      clear hz1
      go_upto_region 17 with fail
      clear hd1 hf1
      generalize w11.setCell ⟨w9.heap.size, k, none⟩ (.int .i64 1) = w12 at O12 B12 ⊢
      have B13 := Lib.hid (below_two B9.out B12.out)
      have K13 := Lib.hid (K4.out.below B13.out K4.out.lt)
      have O13 := Lib.hid (O9.out.below B12.out)
      have hc0 := K13.out.c0
      have hc1 := K13.out.c1
      go_wp2_with fail
      clear hc0 hc1
      refine (isMissed_any _ _ _ _ _ _ _ (own_rd O13.out) (by omega)).mono ?_
      rintro e w14 ⟨rfl, b14⟩
      rw [HPM.out]
      have K14 := Lib.hid (K13.out.below b14 K13.out.lt)
      have O14 := Lib.hid (O12.out.below b14)
      have B14 := Lib.hid (below_two B13.out b14)
      clear b14 K13 O13 B13
      have hc0 := K14.out.c0
      have hc1 := K14.out.c1
      go_wp2_with fail
      clear hc0 hc1
      refine (isMissed_any _ _ _ _ _ _ _ (own_rd O14.out) (by omega)).mono ?_
      rintro e w15 ⟨rfl, b15⟩
      rw [HPK.out]
      have B15 := Lib.hid (below_two B4.out (below_two B14.out b15))
      clear b15
      by_cases hkN : k = N
      · have t3 : ((k : Int) == (N : Int)) = true := by simp [hkN]
        rw [decide_eq_true hkN]
        clear hkN
        go_wp2
        go_ret
        exact ⟨rfl, B15.out⟩
      · have t3 : ((k : Int) == (N : Int)) = false := by simp; omega
        rw [decide_eq_false hkN]
        clear hkN
        go_wp2
        go_ret
        exact ⟨rfl, B15.out⟩
    · have t1 : (r1 != 0) = true := by simp [hr1]
      clear hr1
      go_wp2
      go_ret
      exact ⟨rfl, B4.out⟩
  · go_enter Try.func5, Try.ntmps5
    go_wp2_with fail
    refine (big_yes _ _ _ _ hbig).mono ?_
    rintro e w' ⟨rfl, rfl⟩
    go_wp2
    go_ret
    exact ⟨rfl, Below.refl _ _⟩


end Go.Proofs.Ytfmbefmiglpijaa.fnOrders
