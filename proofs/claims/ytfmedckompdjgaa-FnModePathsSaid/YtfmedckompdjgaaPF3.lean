/-
  Chapter 11: the program's firstStep.
-/
import Derived.Test.YtfmedckompdjgaaPF2
namespace Go.Proofs.Ytfmedckompdjgaa
open Go.RowKit

theorem hmfuncM : ∀ (fn : Fn) (first cap : Array Value) (w : World), (Instr.makeFunc fn first cap).run Try.prog w = .ok (.func fn first cap) w := fun _ _ _ _ => rfl
theorem near_step {t : List Md} (h : isModes t = true) {z a n : Nat} (hd : dist t z a = (n : Int) + 1) : (mdOf t a).next.find? (nearBy t z ((n : Int) + 1 - 1)) = some ((stepTo t z n a : Nat) : Int) := by
  rw [show (n : Int) + 1 - 1 = n from by omega]
  obtain ⟨k, hk, e⟩ := dist_next h hd
  unfold stepTo
  have e2 : (fun j : Int => decide (dist t z j.toNat = (n : Int))) = nearBy t z n := rfl
  rw [e2]
  rcases hf : (mdOf t a).next.find? (nearBy t z n) with _ | j
  · have := List.find?_eq_none.1 hf k hk
    simp [nearBy, e] at this
  · have := next_in h a j (List.mem_of_find?_eq_some hf)
    rw [Option.getD_some, Int.toNat_of_nonneg this.1]
set_option maxRecDepth 100000 in
set_option maxHeartbeats 1000000 in
/-- impl's distances.firstStep. -/
theorem firstD_any (b : Nat) (ao : Option Addr) (n cap : Nat) (cs : List Mc) (a z c : Nat) (w : World) (hm : MapAny w b) (hr : RdM w ao n cs) (ht : isModes (mds cs) = true) (ha : a < n) (hz : z < n) (hd : dist (mds cs) z a = (c : Int) + 1) :
    Calls Try.prog 85 #[.map (some b), .slice ao n cap, .int .i64 (a : Int), .int .i64 (z : Int), .int .i64 ((c : Int) + 1)] w fun e w' => e = .returned (.int .i64 ((stepTo (mds cs) z c a : Nat) : Int)) ∧ MapAny w' b ∧ w.grownBy w' (some b) := by
  have hl : (mds cs).length = n := by rw [mds_len]; exact hr.len
  have hn16 : n ≤ 16 := by have := (isModes_iff.1 ht).1.2; omega
  have hc16 : (c : Int) + 1 ≤ 16 := by
    have := (show distTo (mds cs) z (mds cs).length a ≤ (mds cs).length ∧ _ from dist_le _ _).1
    have e : distTo (mds cs) z (mds cs).length a = dist (mds cs) z a := rfl
    omega
  have hst := near_step ht hd
  rw [mdOf_mds] at hst
  have hmf := hmfuncM
  obtain ⟨tb, toff, rfl, htb, hmc, -⟩ := hr.at ha
  have hrd := hr.next _ (mcOf_mem (i := a) (by rw [hr.len]; exact ha))
  have hny := next_in ht a
  rw [mdOf_mds, hl] at hny
  have hnl : (mcOf cs a).md.next.length ≤ 16 := by
    have := rises_len (modes_md ht (mdOf_mem (t := mds cs) (i := a) (by omega))).2.2
    rw [mdOf_mds] at this
    omega
  generalize mcOf cs a = x at hst hmc hrd hny hnl
  obtain ⟨⟨x0, x1, nx⟩, cao, ccap⟩ := x
  obtain ⟨-, -, d2⟩ := hmc
  obtain ⟨hrn, hln, hcn⟩ := hrd
  simp only at d2 hrn hln hcn hst hny hnl
  obtain ⟨w4, hw4⟩ : ∃ w4, w4 = (((w.alloc (.cells #[.map (some b)] 91)).alloc (.cells #[.slice (some ⟨tb, toff, none⟩) n cap] 35)).alloc (.cells #[.int .i64 (z : Int)] 2)).alloc (.cells #[.int .i64 ((c : Int) + 1)] 2) := ⟨_, rfl⟩
  have hb4 : Below w.heap.size w w4 := by
    rw [hw4]
    exact ((((Below.refl _ _).alloc (Nat.le_refl _) _).alloc (by simp) _).alloc (by simp; omega) _).alloc (by simp; omega) _
  have d2' := (hb4.cell (p := ⟨tb, toff + a * 3 + 2, none⟩) htb).trans d2
  have k1 : w4.cell? ⟨w.heap.size, 0, none⟩ = some (.map (some b)) := by rw [hw4]; simp [go_sem]
  have k2 : w4.cell? ⟨w.heap.size + 1, 0, none⟩ = some (.slice (some ⟨tb, toff, none⟩) n cap) := by rw [hw4]; simp [go_sem]
  have k3 : w4.cell? ⟨w.heap.size + 1 + 1, 0, none⟩ = some (.int .i64 (z : Int)) := by rw [hw4]; simp [go_sem]
  have k4 : w4.cell? ⟨w.heap.size + 1 + 1 + 1, 0, none⟩ = some (.int .i64 ((c : Int) + 1)) := by rw [hw4]; simp [go_sem]
  have HM4 := Lib.hid (hm.low hb4 hm.lt)
  have HR4 := Lib.hid (hr.below hb4)
  have HRN := Lib.hid (hrn.below hb4)
  have HCP : Hid (Caps w4 b w.heap.size (w.heap.size + 1) (w.heap.size + 1 + 1) (w.heap.size + 1 + 1 + 1) (some ⟨tb, toff, none⟩) n cap z ((c : Int) + 1)) := Lib.hid ⟨k1, k2, k3, k4⟩
  have HNY := Lib.hid hny; have HST := Lib.hid hst
  have HIX := Lib.hid (indexD_any b w.heap.size (w.heap.size + 1) (w.heap.size + 1 + 1) (w.heap.size + 1 + 1 + 1) (some ⟨tb, toff, none⟩) n cap z cs ((c : Int) + 1) cao ccap nx w4 HM4.out HCP.out HR4.out ht hz ⟨by omega, hc16⟩ HRN.out hnl HNY.out (by rw [HST.out]; simp))
  have HB4 := Lib.hid hb4; have HM := Lib.hid hm; have HW4 := Lib.hid hw4
  clear hm hr ht hd hl hst hny hrn hb4 k1 k3 k4 d2 hw4 hmf
  have hai : (a : Int) < (n : Int) := by omega
  go_enter Try.func85, Try.ntmps85
  go_upto_region 1 with fail
  rw [← HW4.out]
  have hmf := hmfuncM
  go_wp2_with fail
  refine HIX.out.mono ?_
  rintro e w5 ⟨k, rfl, hk, hf, m5, g5⟩
  rw [HST.out] at hf
  have hf2 : nx.getD k 0 = ((stepTo (mds cs) z c a : Nat) : Int) := (Option.some.inj hf).symm
  have hx5 := HM4.out.rd g5 HRN.out
  obtain ⟨xb, xoff, rfl, hcx⟩ := hx5.here (by omega)
  have ck := hcx k hk
  rw [hf2] at ck
  have HM5 := Lib.hid m5; have HG5 := Lib.hid g5
  have hki : (k : Int) < (nx.length : Int) := by omega
  clear m5 g5 hx5 hcx hf hf2 k2 d2'
  go_wp2_with fail
  go_ret
  refine ⟨rfl, HM5.out, ?_⟩
  have hbl := HM.out.lt
  have hb4 := HB4.out
  have hg5 := HG5.out
  exact ⟨hg5.os.trans hb4.os, hg5.tape.trans hb4.tape, hg5.output.trans hb4.output, Nat.le_trans hb4.size hg5.size, fun i hi hne => (hg5.block i (Nat.lt_of_lt_of_le hi hb4.size) hne).trans (hb4.block i hi)⟩
end Go.Proofs.Ytfmedckompdjgaa
