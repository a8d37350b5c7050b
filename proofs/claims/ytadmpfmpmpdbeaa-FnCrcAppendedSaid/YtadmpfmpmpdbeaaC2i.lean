/-
  CrcTable on the specification's side.
-/
import Derived.Test.YtadmpfmpmpdbeaaC2h
import Derived.Deep.AppendLies
namespace Go.Proofs.Ytadmpfmpmpdbeaa
open Go.RowKit

/-- 'append(out, x)' of one number, at a step of a region that draws its order. -/
theorem step_append_one {P : Program} {E T : Nat} {w : World} {ops : Array Oper} {o : Oper} {a : Act} {K : Act → World → Prop} {Q : Exit → Act → World → Prop} {E' : Prop} (hgd : o.guard = none) (s x : Operand)
    (ho : o.op = .call { callee := .builtin .append, args := #[s, x], argTypes := #[T, T] })
    (base : Nat) (ht : P.underlying T = some (.slice E)) (hi : Info64 P E)
    (v : Value) (xs : List Int) (hs : a.eval s = v) (hown : Own E w base v xs) (b : Nat) (y : Int) (c : Nat) (hx : a.eval x = .slice (some ⟨b, 0, none⟩) 1 c) (hc : w.cell? ⟨b, 0, none⟩ = some (.int .i64 y))
    (hlen : xs.length ≤ 4294967296) (hbase : base ≤ w.heap.size)
    (h : ∀ v' w', Own E w' base v' (xs ++ [y]) → Below base w w' → K (a.put o.dst v') w') : if Region.wanted o (yielded ops a.tmps) = true then Oper.wp P o a w K Q else E' := by
  obtain ⟨i0, hi, hz0, hz1, hz2⟩ := info_parts hi
  refine step_append_lies w hgd s x T ho base E i0 (.int .i64 0) 1 8 ht hi hz0 hz1 hz2 rfl (by decide) v xs.length _ hs hown ⟨b, 0, none⟩ 1 c [.int .i64 y] hx rfl ?_ ?_ (by decide) (by unfold maxLen; omega) (by omega) hbase w.heap.size rfl ?_
  · intro j u hj
    match j, hj with
    | 0, hj => simp at hj; subst hj; simpa [Addr.add] using hc
  · intro u hu; simp at hu; subst hu; rfl
  · intro g cap w' h1 h2 _ _
    refine h _ w' ?_ ((Below.refl _ _).grown h2 hbase fun k hk => (hown.block k hk).1)
    unfold Own
    simpa using h1
/-- A slice of one number in a block of its own. -/
theorem rd_one {w : World} {b : Nat} {x : Int} (hc : w.cell? ⟨b, 0, none⟩ = some (.int .i64 x)) : Rd w (some ⟨b, 0, none⟩) 1 [x] :=
  ⟨rfl, fun _ => ⟨b, 0, rfl, fun i hi => by
    have : i = 0 := by omega
    subst this; exact hc⟩⟩
theorem range_tab_succ {W : Nat} (g : BitVec W) (k : Nat) : (List.range (k + 1)).map (tabOf g) = (List.range k).map (tabOf g) ++ [tabOf g k] := by
  rw [List.range_succ, List.map_append]; rfl
theorem ct_1 {wd p : Int} (h : isCrc wd p = false) : crcTable wd p = ([], 1) := by unfold crcTable; rw [if_pos h]
theorem ct_0 {wd p : Int} (h : isCrc wd p = true) : crcTable wd p = (crcTab wd p 256, 0) := by unfold crcTable; rw [if_neg (by simp [h])]
theorem feed0_any (W : Nat) (g : BitVec W) (ao : Option Addr) (n cap : Nat) (xs : List Int) (w : World) (h1 : 3 ≤ W) (h2 : W ≤ 24) (hr : Rd w ao n xs) (hn : n ≤ 1048576) (hbits : ∀ x ∈ xs, 0 ≤ x ∧ x ≤ 1) :
    Calls Try.prog 60 #[.agg #[.int .i64 W, .int .i64 g.toNat], .int .i64 0, .slice ao n cap] w fun e w' => e = .returned (.int .i64 (regOf g 0#W xs)) ∧ Below w.heap.size w w' := by
  have h := feed_any W g 0#W ao n cap xs w h1 h2 hr hn hbits
  have e : (((0#W).toNat : Nat) : Int) = 0 := by simp
  rwa [e] at h

theorem bits1_any (ao : Option Addr) (cap : Nat) (k : Nat) (w : World) (hr : Rd w ao 1 [(k : Int)]) :
    Calls Try.prog 61 #[.slice ao 1 cap] w (Makes 2 w (bitsOf (k : Int) 8)) := by
  have h := l01Bits_any ao cap [(k : Int)] w hr (by simp)
  have e : (List.flatMap (bitsOf · 8) [(k : Int)]) = bitsOf (k : Int) 8 := by simp
  rw [e] at h
  exact h
set_option maxRecDepth 100000 in
set_option maxHeartbeats 800000 in
theorem sCrcTable_any (wd p : Int) (w : World) :
    Calls Try.prog 21 #[.agg #[.int .i64 wd, .int .i64 p]] w (Makes2 2 w (crcTable wd p).1 (crcTable wd p).2) := by
  have hb0 : Below w.heap.size w (w.alloc (.cells #[.int .i64 wd, .int .i64 p] 25)) := (Below.refl _ _).alloc (Nat.le_refl _) _
  rcases hI : isCrc wd p with _ | _
  · rw [ct_1 hI]
    have HI := Lib.hid hI; clear hI
    have HB := Lib.hid hb0; clear hb0
    go_enter Try.func21, Try.ntmps21
    go_wp2_with fail
    refine (sIsCrc_any _ _ _).mono ?_
    rintro e w1 ⟨rfl, b1⟩
    rw [HI.out]
    go_wp2
    go_ret2
    exact ⟨_, rfl, Own.nil_, below_two HB.out b1⟩
  · rw [ct_0 hI]
    have hsc := struct_cells (w := w) wd p 25
    have hI' := hI
    obtain ⟨W, g, rfl, h1, h2, rfl, -⟩ := isCrc_get hI'
    clear hI'
    rw [crcTab_eq]
    obtain ⟨TT, hTT⟩ : ∃ TT, TT = (List.range 256).map (tabOf g) := ⟨_, rfl⟩
    rw [← hTT]
    have HTT := Lib.hid hTT; clear hTT
    have hsz : (w.alloc (.cells #[.int .i64 W, .int .i64 g.toNat] 25)).heap.size = w.heap.size + 1 := by simp
    have HI := Lib.hid hI; clear hI
    have HB := Lib.hid hb0; clear hb0
    have HS := Lib.hid hsc; clear hsc
    have HZ := Lib.hid hsz; clear hsz
    go_enter Try.func21, Try.ntmps21
    go_wp2_with fail
    generalize World.alloc w (.cells #[.int .i64 W, .int .i64 g.toNat] 25) = w0 at HS HB HZ ⊢
    refine (sIsCrc_any _ _ _).mono ?_
    rintro e w1 ⟨rfl, b1⟩
    rw [HI.out]
    have hw0 := HZ.out
    have hw1 := b1.size
    go_wp2
    go_loopw [4, 5] (fun v i wr => ∃ k : Nat, k ≤ 256 ∧ i = .int .i64 k ∧ Own 2 wr w0.heap.size v ((List.range k).map (tabOf g)) ∧ Below w0.heap.size w0 wr) (fun _ i _ => 256 - (intOf i).toNat)
    case atStart => exact ⟨0, Nat.zero_le _, rfl, Own.of_alloc_nil hw1, b1.alloc hw1 _⟩
    case round =>
      clear b1 hw1
      obtain ⟨k, hk, rfl, hown, hbel⟩ := hrel
      have hlt0 : w.heap.size < w0.heap.size := by omega
      have hc0 := (hbel.cell (p := ⟨w.heap.size, 0, none⟩) hlt0).trans HS.out.1
      have hc1 := (hbel.cell (p := ⟨w.heap.size, 1, none⟩) hlt0).trans HS.out.2
      have hwr := hbel.size
      by_cases hlt : k < 256
      · have hll : ((List.range k).map (tabOf g)).length ≤ 4294967296 := by simp; omega
        have hS : ∀ w', Below w0.heap.size wr w' → w'.cell? ⟨w.heap.size, 0, none⟩ = some (.int .i64 W) ∧ w'.cell? ⟨w.heap.size, 1, none⟩ = some (.int .i64 g.toNat) := fun w' hb =>
          ⟨(hb.cell (p := ⟨w.heap.size, 0, none⟩) (by exact hlt0)).trans hc0, (hb.cell (p := ⟨w.heap.size, 1, none⟩) (by exact hlt0)).trans hc1⟩
        have HSS := Lib.hid hS; clear hS hc0 hc1
        have HOW := Lib.hid hown; clear hown
        have HBE := Lib.hid hbel; clear hbel
        have HLL := Lib.hid hll; clear hll
        have hone : Rd ((wr.alloc (.cells #[.int .i64 (k : Int)] 2)).drew) (some ⟨wr.heap.size, 0, none⟩) 1 [(k : Int)] := rd_one (new_cell (w := wr) (t := 2) rfl)
        have HONE := Lib.hid hone; clear hone
        have hba : Below wr.heap.size wr ((wr.alloc (.cells #[.int .i64 (k : Int)] 2)).drew) := ((Below.refl _ _).alloc (Nat.le_refl _) _).drew
        have HBA := Lib.hid hba; clear hba
        have hy : regOf g 0#W (bitsOf (k : Int) 8) = tabOf g k := rfl
        obtain ⟨y, hyy⟩ : ∃ y, y = tabOf g k := ⟨_, rfl⟩
        rw [← hyy] at hy
        have HY := Lib.hid hy; clear hy
        have HYY := Lib.hid hyy; clear hyy
        go_wp2
        go_region_held3 (fun w' => w'.cell? ⟨w.heap.size, 0, none⟩ = some (.int .i64 W) ∧ w'.cell? ⟨w.heap.size, 1, none⟩ = some (.int .i64 g.toNat))
          (first
            | exact HSS.out _ (Below.refl _ _).drew
            | exact HSS.out _ (HBA.out.mono hwr)
            | exact HSS.out _ (B3.out.mono hwr) | exact HSS.out _ (B4.out.mono hwr) | exact HSS.out _ ((B4.out.alloc B4.out.size _).mono hwr) | exact HSS.out _ B5.out)
          (first
            | (go_at_call 61; (refine (bits1_any _ _ k _ HONE.out).mono ?_); rintro e w3 m3; obtain ⟨p3, c3, rfl, o3, r3, b3⟩ := m3.get; have B3 := Lib.hid (below_two HBA.out b3); have HR3 := Lib.hid r3; clear r3 o3 m3 b3)
            | (go_at_call 60; (refine (feed0_any W g _ _ _ (bitsOf (k : Int) 8) _ h1 h2 HR3.out (by rw [bitsOf_len]; omega) (bitsOf_bits _ _)).mono ?_); rintro e w4 ⟨rfl, b4⟩; rw [HY.out]; have B4 := Lib.hid (below_two B3.out b4); clear b4)
            | (refine step_append_one (by rfl) (.tmp 14) (.tmp 20) (by rfl) w0.heap.size Try.underlying26 info64 _ _ (by rfl) (HOW.out.below (B4.out.alloc B4.out.size _)) _ _ _ (by rfl) (new_cell rfl) HLL.out (by have := B4.out.size; simp; omega) ?_; intro v5 w5 o5 b5; have B5 := Lib.hid (((B4.out.alloc B4.out.size _).mono hwr).trans b5); have O5 := Lib.hid o5; have B6 := Lib.hid b5; clear o5 b5))
        go_wp2
        go_roundw
        case rel => exact ⟨k + 1, by omega, by go_num, by rw [range_tab_succ, ← HYY.out]; exact O5.out, HBE.out.trans B5.out⟩
        case measure => simp [intOf]; omega
      · have hkn : k = 256 := by omega
        subst hkn
        rw [← HTT.out] at hown
        have HO := Lib.hid hown; clear hown
        go_wp2
        go_ret2
        exact ⟨_, rfl, HO.out.more (by omega), (HB.out.trans (hbel.mono (by omega)))⟩
end Go.Proofs.Ytadmpfmpmpdbeaa
