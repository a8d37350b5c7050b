/-
  Chapter 11: ReachableModes of the program: slices.Sorted(maps.Keys(..)).
-/
import Derived.Test.YtfmedckompdjgaaPA
import Derived.Test.YtfmedckompdjgaaPT
import Derived.Test.YtfmedckompdjgaaShelfM
namespace Go.Proofs.Ytfmedckompdjgaa
open Go.RowKit Go.Maps Go.Sort Go.Shelf

/-- slices.Sort's two contracts. -/
theorem sortsM (m : Nat) : AnyZI.SortsIn Try.prog shelfmsortedA_ren Fence.wide m :=
  ⟨fun blk off cap ss W hH hblk hsz => callsIn_wide.2 (AnyM.slices_Sort_int shelfmsortA blk off cap ss W hH hblk hsz),
   fun p cap W => callsIn_wide.2 (AnyM.slices_Sort_int_none shelfmsortA p cap W)⟩
/-- maps.Keys. -/
theorem keysM_any (mb : Option Nat) (w : World) : Calls Try.prog 90 #[.map mb] w fun e w' => e = .returned (.func (.func 121) #[] #[.pointer (some ⟨w.heap.size, 0, none⟩)]) ∧ w' = w.alloc (.cells #[.map mb] 91) :=
  callsIn_wide.1 (AnyZI.keys_in shelfmkeysA Fence.wide 5 trivial rfl mb w)
theorem reach_sorted {t : List Md} {a : Nat} {D : DataW Unit} {w : World} {P : Program} {K b n : Nat} {R : Value → Option (DataW Unit × List MemPlace)} (hown : w.ownsMap P K R b n D) (hK : P.underlying K = some (.int .i64))
    (h : ∀ x : Int, Maps.has D (.int .i64 x) = (graphD t a x).isSome) {ss : List Int} (hp : ss.Perm (intKeys D)) : ss.mergeSort (fun x y => decide (x ≤ y)) = reachOf t a := by
  have hnd : (reachOf t a).Nodup := by
    unfold reachOf
    refine List.Pairwise.map _ (fun x y (h : x ≠ y) e => h (Int.ofNat_inj.1 e)) ?_
    exact List.Pairwise.filter _ List.nodup_range
  have hpw : (reachOf t a).Pairwise (fun x y => decide (x ≤ y) = true) := by
    unfold reachOf
    refine List.Pairwise.map _ (fun (x y : Nat) (h : x < y) => decide_eq_true (by omega)) ?_
    exact List.Pairwise.filter _ List.pairwise_lt_range
  have hmem : ∀ x, x ∈ reachOf t a ↔ Maps.has D (.int .i64 x) = true := fun x => by
    rw [h x, reach_mem]
    constructor
    · rintro ⟨k, rfl, hk, h0⟩
      rw [graphD_in ⟨by omega, by omega⟩, Int.toNat_natCast, if_pos h0]
      rfl
    · intro hs
      obtain ⟨d, hd⟩ := Option.isSome_iff_exists.1 hs
      unfold graphD at hd
      split at hd
      · rename_i hc
        exact ⟨x.toNat, by omega, by omega, hc.2⟩
      · cases hd
  have hp2 : (reachOf t a).Perm (intKeys D) := CollectedI.perm (left := fun _ => false) ⟨hnd, fun x => by rw [hmem x]; simp⟩ hown (int_keyed hK) hK (fun _ => rfl)
  rw [mergeSort_of_perm_i (hp.trans hp2.symm)]
  exact List.mergeSort_of_pairwise hpw
set_option maxHeartbeats 1000000 in
/-- slices.Sorted of the keys of the distances. -/
theorem sortedM_any (b m : Nat) (t : List Md) (a : Nat) (w : World) (hc : w.cell? ⟨m, 0, none⟩ = some (.map (some b))) (hm : MapAt11 w b (graphD t a)) :
    Calls Try.prog 89 #[.func (.func 121) #[] #[.pointer (some ⟨m, 0, none⟩)]] w (Makes 2 w (reachOf t a)) := by
  obtain ⟨nn, hn, D, hown, hD⟩ := hm
  have hsz := hown.size_le
  have hmlt : m < w.heap.size := World.block_lt_of_cell? w _ hc
  have hseq : SeqGives Fence.wide 2 Try.prog 121 #[.pointer (some ⟨m, 0, none⟩)] encZ (fun ss => ss.Perm (intKeys D)) (Maps.size D) w :=
    AnyZI.keys_gives (ρ := shelfmkeysA_ren) { shelfmkeysA with } Fence.wide _ trivial rfl (by omega) m b nn D w hmlt hc hown
  have cS := AnyZI.sorted_in shelfmsortedA Fence.wide 5 trivial trivial trivial trivial rfl (by omega) (sortsM _) (enters_of Try.func120 (by kernel_rfl) rfl) 121 #[.pointer (some ⟨m, 0, none⟩)] trivial (enters_of Try.func121 (by kernel_rfl) rfl) _ _ (by unfold maxLen; omega) (by omega) _ hseq
  refine (callsIn_wide.1 cS).mono ?_
  rintro e w' ⟨v, ss, rfl, hS, hrow, -, hb⟩
  have hlen : ss.length = (ss.mergeSort (fun x y => decide (x ≤ y))).length := (List.length_mergeSort _).symm
  rw [hlen, reach_sorted hown Try.underlying2 (fun x => (hD x).1) hS] at hrow
  exact ⟨v, rfl, hrow, hb⟩
set_option maxHeartbeats 1000000 in
set_option maxRecDepth 100000 in
/-- impl.ReachableModes. -/
theorem reachI_any (ao : Option Addr) (n cap : Nat) (cs : List Mc) (a : Int) (w : World) (hr : RdM w ao n cs) (hn : n ≤ 1048576) (hs : smallM cs) :
    Calls Try.prog 37 #[.slice ao n cap, .int .i64 a] w (Makes2 2 w (reachableModes (mds cs) a).1 (reachableModes (mds cs) a).2) := by
  have hb1 := (Below.refl w.heap.size w).alloc (Nat.le_refl _) (.cells #[.int .i64 a] 2)
  have HC := Lib.hid (codeM_any ao n cap cs _ 1 1 [a] _ (hr.below hb1) hn hs (rdm_one 2 a w) (by omega))
  have HB := Lib.hid hb1
  have HCO := Lib.hid (codeM_one (mds cs) a)
  have hlen : (mds cs).length = n := (mds_len cs).trans hr.len
  have HR := Lib.hid hr
  rcases hc : isModes (mds cs) && isMode (mds cs) a with _ | _
  · obtain ⟨q, hq, hq0, hF⟩ : ∃ q, q = codeM (mds cs) [a] ∧ q ≠ 0 ∧ reachableModes (mds cs) a = ([], q) := by
      refine ⟨_, rfl, ?_, ?_⟩
      · rw [HCO.out]; rcases h1 : isModes (mds cs) with _ | _ <;> rcases h2 : isMode (mds cs) a with _ | _ <;> simp_all
      · rw [HCO.out]; unfold reachableModes; rcases h1 : isModes (mds cs) with _ | _ <;> rcases h2 : isMode (mds cs) a with _ | _ <;> simp_all
    have hqb : (q == 0) = false := by simp [hq0]
    have HQ := Lib.hid hq
    rw [hF]
    clear hr hb1 hs hc hq hq0 hF hlen
    go_enter Try.func37, Try.ntmps37
    go_wp2_with fail
    refine HC.out.mono ?_
    rintro e w1 ⟨rfl, b1⟩
    rw [← HQ.out]
    go_wp2_with fail
    go_ret2
    exact ⟨_, rfl, Own.nil_, below_two HB.out b1⟩
  obtain ⟨hi, hm⟩ : isModes (mds cs) = true ∧ isMode (mds cs) a = true := by simpa using hc
  obtain ⟨hm0, hm1⟩ := isMode_iff.1 hm
  obtain ⟨s, rfl⟩ : ∃ k : Nat, a = k := ⟨a.toNat, by omega⟩
  have hsn : s < n := by omega
  have hF : reachableModes (mds cs) s = (reachOf (mds cs) s, 0) := by
    unfold reachableModes
    rw [if_neg (by rw [hi]; simp), if_neg (by rw [hm]; simp), Int.toNat_natCast]
  have HK := Lib.hid (show codeM (mds cs) [(s : Int)] = 0 from by rw [HCO.out, if_neg (by rw [hi]; simp), if_neg (by rw [hm]; simp)])
  have HT := Lib.hid hi
  rw [hF]
  clear hm0 hm1 hm hlen HCO hc hr hb1 hs hi hF
  go_enter Try.func37, Try.ntmps37
  go_wp2_with fail
  refine HC.out.mono ?_
  rintro e w1 ⟨rfl, b1⟩
  rw [HK.out]
  have hbb := below_two HB.out b1
  have hb2 : Below w.heap.size w (w1.alloc (.map #[] 0)) := hbb.alloc hbb.size _
  have HFL := Lib.hid (fillD_any w1.heap.size 0 _ ao n cap cs s _ (mapIs_made w1) (HR.out.below hb2) HT.out hsn)
  have HB2 := Lib.hid hb2; have HBS := Lib.hid hbb.size
  clear b1 hbb hb2 HC HB HR
  have hmk := fun W => run_makeMap_none (P := Try.prog) (T := 91) W
  go_wp2_with fail
  refine HFL.out.mono ?_
  rintro e w2 ⟨rfl, hm2, g2⟩
  have hlt2 : w1.heap.size < w2.heap.size := by have := g2.size; simp at this; omega
  have HB3 := Lib.hid (only_below HB2.out g2 HB2.out.size (fun k e => by cases e; exact HBS.out))
  have HM2 := Lib.hid hm2
  clear g2 HFL hm2 HB2 hmk
  go_wp2_with fail
  refine (keysM_any (some w1.heap.size) w2).mono ?_
  rintro e w3 ⟨rfl, hw3⟩
  have hb3 : Below w2.heap.size w2 w3 := by rw [hw3]; exact (Below.refl _ _).alloc (Nat.le_refl _) _
  have hc3 : w3.cell? ⟨w2.heap.size, 0, none⟩ = some (.map (some w1.heap.size)) := by rw [hw3]; exact new_cell rfl
  have HM3 := Lib.hid (show MapAt11 w3 w1.heap.size (graphD (mds cs) s) from by
    obtain ⟨k, hk, h⟩ := HM2.out
    exact ⟨k, hk, h.below hb3⟩)
  have HST := Lib.hid (sortedM_any w1.heap.size w2.heap.size (mds cs) s w3 hc3 HM3.out)
  have HB4 := Lib.hid (below_two HB3.out hb3)
  clear hw3 hb3 hc3
  go_wp2_with fail
  refine HST.out.mono ?_
  rintro e w4 ⟨v, rfl, o4, b4⟩
  have HO4 := Lib.hid (o4.more HB4.out.size); have HB5 := Lib.hid (below_two HB4.out b4)
  clear o4 b4
  go_wp2_with fail
  go_ret2
  exact ⟨_, rfl, HO4.out, HB5.out⟩
end Go.Proofs.Ytfmedckompdjgaa
