/-
  Chapter 4: impl.separatedNumbers, StateText on both sides.
-/
import Derived.Test.YtkidhilipeoliaaDoorC4p
import Derived.Test.YtkidhilipeoliaaDoorBase
import Derived.Lib.Split
import Derived.Lib.SplitLaws
import Derived.WalkSmall
namespace Go.Proofs.YtkidhilipeoliaaDoor
open Go.RowKit

def itoaStr (n : Int) : ByteArray := ⟨(Lib.itoa n).toArray⟩
/-- Numbers in decimal, separated by slashes. -/
def slashed (xs : List Int) : ByteArray := ⟨(Lib.join (xs.map Lib.itoa) [47]).toArray⟩
/-- The table that strconv.FormatInt reads lies in the program's variable. -/
def TabHere (w : World) : Prop := Lib.TabIs Tryd.prog w "internal/strconv.uint64pow10" .u64 Lib.pow10Tab ∧ 3 < w.heap.size
theorem TabHere.below {B : Nat} {w w' : World} (h : TabHere w) (hb : Below B w w') (hB : 3 < B) : TabHere w' :=
  ⟨var?_below (g := 2) hb (by kernel_rfl) (by omega) h.1, Nat.lt_of_lt_of_le h.2 hb.size⟩
theorem make_five (w : World) : (Instr.makeSlice 50 (.int .i64 5) (.int .i64 5)).run Tryd.prog w = .ok (.slice (some ⟨w.heap.size, 0, none⟩) 5 5) (w.alloc (.cells #[.string ByteArray.empty, .string ByteArray.empty, .string ByteArray.empty, .string ByteArray.empty, .string ByteArray.empty] 9)) := by kernel_rfl
theorem five_cells : (#[.string ByteArray.empty, .string ByteArray.empty, .string ByteArray.empty, .string ByteArray.empty, .string ByteArray.empty] : Array Value) = Lib.cellsOf [] 5 := by
  simp [Lib.cellsOf]
set_option maxRecDepth 100000 in
theorem separated_any (b : Nat) (xs : List Int) (w : World) (hV : TabHere w) (hl : xs.length = 5) (hr : Rd w (some ⟨b, 0, none⟩) 5 xs) (hx : ∀ x ∈ xs, -9223372036854775808 ≤ x ∧ x ≤ 9223372036854775807) (hlen : (Lib.join (xs.map Lib.itoa) [47]).length ≤ 140737488355328) :
    Calls Tryd.prog 30 #[.string ⟨#[47]⟩, .slice (some ⟨b, 0, none⟩) 5 5] w (GivesStr w (slashed xs)) := by
  have hmk := make_five
  have HV := Lib.hid hV; clear hV
  have HR := Lib.hid hr; clear hr
  have HX := Lib.hid hx; clear hx
  have HL := Lib.hid hl; clear hl
  have HLEN := Lib.hid hlen; clear hlen
  have hsz := HV.out.2
  go_enter Tryd.func30, Tryd.ntmps30
  go_wp2
  rw [five_cells]
  go_loopw [13] (fun i wr => ∃ k : Nat, k ≤ 5 ∧ i = .int .i64 k ∧ wr.heap[w.heap.size]? = some (.cells (Lib.cellsOf ((xs.take k).map itoaStr) 5) 9 (0, 0)) ∧ Below w.heap.size w wr) (fun i _ => 5 - (intOf i).toNat)
  case atStart => exact ⟨0, Nat.zero_le _, rfl, heap_alloc_new w _, (Below.refl _ _).alloc (Nat.le_refl _) _⟩
  case round =>
    obtain ⟨k, hk, rfl, hT, hB⟩ := hrel
    by_cases hlt : k < 5
    · obtain ⟨b', off, e, hcell⟩ := HR.out.here (by omega)
      cases e
      have hc := hcell k hlt
      have hc := (hB.cell (p := ⟨b, 0 + k, none⟩) (World.block_lt_of_cell? _ _ hc)).trans hc
      rw [Nat.zero_add] at hc
      have hkx : k < xs.length := by rw [HL.out]; exact hlt
      have hbd := HX.out _ (getD_mem' hkx)
      have hnext : (xs.take (k + 1)).map itoaStr = (xs.take k).map itoaStr ++ [itoaStr (xs.getD k 0)] := by rw [take_succ' xs k hkx, List.map_append]; rfl
      obtain ⟨x, hxk⟩ : ∃ x, xs.getD k 0 = x := ⟨_, rfl⟩
      rw [hxk] at hc hbd hnext
      obtain ⟨done, hdone⟩ : ∃ done, (xs.take k).map itoaStr = done := ⟨_, rfl⟩
      have hdl : done.length = k := by rw [← hdone, List.length_map, List.length_take, HL.out]; omega
      rw [hdone] at hT hnext
      have HN := Lib.hid hnext; clear hnext hdone hxk hkx hcell
      have HB := Lib.hid hB; clear hB
      have HT := Lib.hid hT; clear hT
      have hk5 : (k : Int) < 5 := by omega
      go_wp2_with fail
      refine (formatInt_any x hbd.1 hbd.2 _ (HV.out.below HB.out hsz).1).mono ?_
      rintro e wr2 ⟨rfl, b2⟩
      have hlt2 : w.heap.size < wr.heap.size := (Array.getElem?_eq_some_iff.1 HT.out).1
      have hT2 := (b2.block w.heap.size hlt2).trans HT.out
      have hd1 : wr2.cell? ⟨w.heap.size, k, none⟩ = some (.string ByteArray.empty) := by
        rw [cell_of_row wr2 w.heap.size k _ _ (0, 0) hT2, ← hdl]
        exact Lib.cellsOf_next (by omega)
      have hf1 : wr2.frozen? ⟨w.heap.size, k, none⟩ = false := frozen_of_row wr2 w.heap.size k _ _ hT2
      have hT3 := heap_setCell_same wr2 w.heap.size k _ _ (.string (itoaStr x)) hT2
      have hset : (Lib.cellsOf done 5).setIfInBounds k (.string (itoaStr x)) = Lib.cellsOf (done ++ [itoaStr x]) 5 := by
        have h := Lib.cellsOf_set (N := 5) (done := done) (by omega) (itoaStr x)
        rwa [hdl] at h
      rw [hset, ← HN.out] at hT3
      have HT3 := Lib.hid hT3
      have HB3 := Lib.hid ((HB.out.trans (b2.mono HB.out.size)).trans ((Below.refl w.heap.size wr2).setCell (p := ⟨w.heap.size, k, none⟩) (Nat.le_refl _) (.string (itoaStr x))))
      clear hT3 hset hT2 b2 HT HB HN hdl
      go_wp2
      go_roundw
      case rel => exact ⟨k + 1, by omega, by go_num, HT3.out, HB3.out⟩
      case measure => simp [intOf]; omega
    · have hk5 : k = 5 := by omega
      subst hk5
      have hls : (xs.map itoaStr).length = 5 := by rw [List.length_map]; exact HL.out
      have hT2 : wr.heap[w.heap.size]? = some (.cells ((xs.map itoaStr).map Value.string).toArray 9 (0, 0)) := by
        rw [List.take_of_length_le (by rw [HL.out]; exact Nat.le_refl _)] at hT
        rw [hT, ← hls, Lib.cellsOf_full]
      have hj := shelfstringsJoin w.heap.size 0 5 (xs.map itoaStr) ⟨#[47]⟩ wr (fun j x hjx => by
        rw [Nat.zero_add, cell_of_row wr w.heap.size j _ _ (0, 0) hT2, List.getElem?_toArray, List.getElem?_map, hjx]; rfl) (Array.getElem?_eq_some_iff.1 hT2).1 (by rw [hls]; omega) (by rw [hls]; exact Nat.le_refl _) (by
        rw [List.map_map]
        exact HLEN.out)
      rw [hls, List.map_map] at hj
      have HJ := Lib.hid hj
      have HB := Lib.hid hB
      clear hj hT hT2 hB hls
      go_wp2_with fail
      refine (HJ.out).mono ?_
      rintro e w3 ⟨rfl, b3⟩
      have HB3 := Lib.hid (below_two HB.out b3)
      clear b3 HB HJ
      go_wp2_with fail
      go_ret
      exact ⟨rfl, HB3.out⟩
end Go.Proofs.YtkidhilipeoliaaDoor
