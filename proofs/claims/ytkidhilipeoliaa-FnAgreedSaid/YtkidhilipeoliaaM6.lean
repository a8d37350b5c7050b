/-
  Chapter 5: countsOf (an array by value) and AgreedMembers, of the program and of its model.
-/
import Derived.Test.YtkidhilipeoliaaM5
import Derived.Test.YtkidhilipeoliaaM3
import Derived.Test.YtkidhilipeoliaaVec2
import Derived.Deep.Cut
namespace Go.Proofs.Ytkidhilipeoliaa
open Go.RowKit

theorem infoArr : (Try.prog.info? 63).map (·.size) = some 32 := by kernel_rfl
theorem underArr : Try.prog.underlying 63 = some (.array 32 3) := by kernel_rfl
theorem infoArr_of {xs : List Int} (h : xs.length = 32) : (Try.prog.info? 63).map (·.size) = some (cellsI xs).size := by rw [cellsI_size, h]; exact infoArr
theorem arr_new (w : World) : ArrAt 63 (w.alloc (.cells (cellsI (List.replicate 32 0)) 63)) w.heap.size (List.replicate 32 0) := heap_alloc_new w _

/-- impl.countsOf: an array of the numbers of vectors in which each node is a member. -/
theorem countsOf_any (ao : Option Addr) (n cap : Nat) (xs : List Int) (w : World) (hr : Rd w ao n xs) (hn : n ≤ 1048576) (hv : ∀ x ∈ xs, 0 ≤ x ∧ x ≤ 4294967295) :
    Calls Try.prog 63 #[.slice ao n cap] w fun e w' => e = .returned (.agg (cellsI (countTo xs n))) ∧ Below w.heap.size w w' := by
  obtain ⟨hlen, hat⟩ := hr
  have HL := Lib.hid hlen; clear hlen
  have HA := Lib.hid hat; clear hat
  have HV := Lib.hid hv; clear hv
  obtain ⟨Z, hZ⟩ : ∃ Z, Z = cellsI (List.replicate 32 0) := ⟨_, rfl⟩
  have hzz : (#[.int .i64 0, .int .i64 0, .int .i64 0, .int .i64 0, .int .i64 0, .int .i64 0, .int .i64 0, .int .i64 0, .int .i64 0, .int .i64 0, .int .i64 0, .int .i64 0, .int .i64 0, .int .i64 0, .int .i64 0, .int .i64 0, .int .i64 0, .int .i64 0, .int .i64 0, .int .i64 0, .int .i64 0, .int .i64 0, .int .i64 0, .int .i64 0, .int .i64 0, .int .i64 0, .int .i64 0, .int .i64 0, .int .i64 0, .int .i64 0, .int .i64 0, .int .i64 0] : Array Value) = Z := by rw [hZ]; rfl
  have HZ := Lib.hid hZ; clear hZ
  go_enter Try.func63, Try.ntmps63
  go_wp2
  have A0 : ArrAt 63 ((w.alloc (.cells Z 63)).alloc (.cells Z 63)) w.heap.size (List.replicate 32 0) := by
    unfold ArrAt; rw [← HZ.out]; exact heap_alloc2_old w _ _
  have A1 : ArrAt 63 ((w.alloc (.cells Z 63)).alloc (.cells Z 63)) (w.heap.size + 1) (List.replicate 32 0) := by
    unfold ArrAt; rw [← HZ.out]; exact heap_alloc2_new w _ _
  have B0 : Below w.heap.size w ((w.alloc (.cells Z 63)).alloc (.cells Z 63)) := ((Below.refl _ _).alloc (Nat.le_refl _) _).alloc (by simp) _
  rw [← countTo_zero xs] at A1
  generalize (w.alloc (.cells Z 63)).alloc (.cells Z 63) = w2 at A0 A1 B0 ⊢
  clear hzz
  go_loopw [10] (fun i wr => ∃ k : Nat, k ≤ n ∧ i = .int .i64 k ∧ Hid (ArrAt 63 wr w.heap.size (List.replicate 32 0)) ∧ Hid (ArrAt 63 wr (w.heap.size + 1) (countTo xs k)) ∧ Hid (Below w.heap.size w wr)) (fun i _ => n - (intOf i).toNat)
  case atStart => exact ⟨0, by omega, rfl, A0, A1, B0⟩
  case round =>
    clear A0 A1 B0
    obtain ⟨k, hk, rfl, A0, A1, HB⟩ := hrel
    by_cases hlt : k < n
    · obtain ⟨b, off, rfl, hc⟩ := HA.out (by omega)
      have hck0 := hc k hlt
      have hblt : b < w.heap.size := World.block_lt_of_cell? w _ hck0
      have hck := (HB.out.cell (p := ⟨b, off + k, none⟩) hblt).trans hck0
      clear hc hck0 HA hblt
      have hkx : k < xs.length := by rw [HL.out]; exact hlt
      have hbd := HV.out _ (getD_mem' hkx)
      obtain ⟨m, hm⟩ : ∃ m : Nat, xs.getD k 0 = (m : Int) := ⟨(xs.getD k 0).toNat, by omega⟩
      rw [hm] at hck
      have HM := Lib.hid hm
      have HALL := Lib.hid (countMid_all xs k m hkx hm)
      clear hm hbd hkx
      go_wp2_with fail
      refine (nodes_any m _).mono ?_
      rintro e w3 m3
      have hN := nodesTo_len m 32
      have HAT := Lib.hid (fun (p : Nat) (h : p < (nodesTo m 32).length) => nodesTo_at h)
      obtain ⟨ns, hns⟩ : ∃ ns, nodesTo m 32 = ns := ⟨_, rfl⟩
      rw [hns] at m3 HALL hN HAT
      clear hns
      obtain ⟨pa, c3, rfl, o3, r3, b3⟩ := m3.get
      have R3 := Lib.hid r3; clear r3
      have O3 := Lib.hid o3; clear o3 m3
      replace A0 := Lib.hid (A0.out.below b3 A0.out.lt)
      have C1 := Lib.hid (A1.out.below b3 A1.out.lt)
      have hA1lt := A1.out.lt
      clear A1
      have HB3 := Lib.hid (below_two HB.out b3)
      clear b3
      obtain ⟨l, hl⟩ : ∃ l, ns.length = l := ⟨_, rfl⟩
      rw [hl] at hN
      have HNL := Lib.hid hl
      rw [hl] at R3 O3 HALL ⊢
      clear hl
      go_wp2
      go_loopw [17] (fun i wq => ∃ p : Nat, p ≤ l ∧ i = .int .i64 p ∧ Hid (ArrAt 63 wq (w.heap.size + 1) (countMid xs k ns p)) ∧ Hid (w3.grownBy wq (some (w.heap.size + 1)))) (fun i _ => l - (intOf i).toNat)
      case atStart => exact ⟨0, by omega, rfl, by rw [countMid_zero]; exact C1.out, World.grownBy.refl _ _⟩
      case round =>
        obtain ⟨p, hp, rfl, A1, HG⟩ := hrel
        by_cases hpl : p < l
        · obtain ⟨q, hq, hq2⟩ := HAT.out p (by rw [HNL.out]; exact hpl)
          obtain ⟨g, goff, rfl, hgc⟩ := R3.out.here (by omega)
          have hgb := (O3.out.block g rfl).1
          have hgq := HG.out.cell (hgc p hpl) (by simp; omega)
          rw [hq] at hgq
          obtain ⟨c, hcc, hcle⟩ := countMid_le xs k ns p q hq2
          have hcell := A1.out.cell (i := q) (by rw [countMid_len]; exact hq2)
          have hfz := A1.out.frozen q
          have hst := A1.out.store q ((c : Int) + 1)
          rw [hcc] at hcell
          have hsucc := countMid_succ xs k ns p q (by rw [HNL.out]; exact hpl) hq hq2
          rw [hcc] at hsucc
          rw [hsucc] at hst
          have HS := Lib.hid hst
          have HG' := Lib.hid (grown_trans HG.out (grown_setCell wr (w.heap.size + 1) q (.int .i64 ((c : Int) + 1))))
          have hq3 : (q : Int) < 32 := by omega
          have hq4 : (0 : Int) ≤ (q : Int) := by omega
          clear hst hsucc hcc hgc hgb hq A1 HG R3 O3
          go_wp2
          go_roundw
          case rel => exact ⟨p + 1, by omega, by go_num, HS, HG'⟩
          case measure => simp [intOf]; omega
        · have hpe : p = l := by omega
          subst hpe
          have A1' : Hid (ArrAt 63 wr (w.heap.size + 1) (countTo xs (k + 1))) := by
            have h := A1.out
            rw [HALL.out] at h
            exact h
          clear A1
          go_wp2
          go_roundw
          case rel => exact ⟨k + 1, by omega, by go_num, A0.out.grown HG.out (by simp), A1', only_below HB3.out HG.out HB3.out.size (fun j hj => by cases hj; omega)⟩
          case measure => simp [intOf]; omega
    · have hkn : k = n := by omega
      subst hkn
      have B1 := Lib.hid (below_setRow HB.out (Nat.le_refl _) (cellsI (countTo xs k)))
      have R1 := Lib.hid (setRow_heap wr w.heap.size _ (cellsI (countTo xs k)) _ _ A0.out)
      have H1 : Hid (wr.heap[w.heap.size + 1]? = some (.cells (cellsI (countTo xs k)) 63 (0, 0))) := A1.out
      have H0 : Hid (wr.heap[w.heap.size]? = some (.cells (cellsI (List.replicate 32 0)) 63 (0, 0))) := A0.out
      have I1 := Lib.hid (infoArr_of (countTo_len xs k))
      have S1 : Hid ((cellsI (List.replicate 32 0)).size = (cellsI (countTo xs k)).size) := by rw [cellsI_size, cellsI_size, countTo_len]; rfl
      have N1 := Lib.hid (cellsI_one (countTo xs k))
      obtain ⟨C, hC⟩ : ∃ C, cellsI (countTo xs k) = C := ⟨_, rfl⟩
      obtain ⟨Z0, hZ0⟩ : ∃ C, cellsI (List.replicate 32 0) = C := ⟨_, rfl⟩
      rw [hC] at H1 I1 S1 N1 B1 R1
      have HC := Lib.hid hC
      rw [hZ0] at H0 S1
      clear hC hZ0 A0 A1 HB
      go_wp2_with (first
        | (with_reducible refine wpList_load_row rfl 63 (.tmp 3) rfl (w.heap.size + 1) rfl _ C (0, 0) _ H1.out underArr rfl I1.out ?_)
        | (with_reducible refine wpList_store_row rfl 63 (.tmp 2) (.tmp 28) rfl w.heap.size C rfl rfl _ Z0 H0.out I1.out S1.out N1.out ?_))
      refine bodyPost_ret (v := .agg C) ?_ rfl ⟨by rw [HC.out], B1.out⟩
      exact results_cell_row rfl _ _ w.heap.size _ _ _ _ rfl R1.out underArr rfl I1.out
end Go.Proofs.Ytkidhilipeoliaa
