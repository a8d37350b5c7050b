/-
  Chapter 4: spec.l04Numbers: the numbers of words.
-/
import Derived.Test.YtkidhilipeoliaaDoorC4u
import Derived.Test.YtkidhilipeoliaaDoorC4v
import Derived.Test.YtkidhilipeoliaaDoorOne
namespace Go.Proofs.YtkidhilipeoliaaDoor
open Go.RowKit
def numsS (ws : List ByteArray) : List Int × Bool := if numsOk ws = true then (ws.map fun s => (valS s).1, true) else ([], false)
theorem numsS_no {ws : List ByteArray} (h : numsOk ws = false) : numsS ws = ([], false) := by unfold numsS; rw [if_neg (by rw [h]; simp)]
theorem numsS_yes {ws : List ByteArray} (h : numsOk ws = true) : numsS ws = (ws.map fun s => (valS s).1, true) := by unfold numsS; rw [if_pos h]
theorem numsOk_append : ∀ (a b : List ByteArray), numsOk (a ++ b) = (numsOk a && numsOk b)
  | [], b => by simp [numsOk]
  | x :: a, b => by rw [List.cons_append, numsOk_cons, numsOk_cons, numsOk_append a b, Bool.and_assoc]
theorem take_snoc {ws : List ByteArray} {k : Nat} (hk : k < ws.length) : ws.take (k + 1) = ws.take k ++ [ws.getD k ByteArray.empty] := by
  rw [List.take_add_one, List.getElem?_eq_getElem hk]; simp [List.getD, List.getElem?_eq_getElem hk]
theorem numsOk_stop {ws : List ByteArray} {k : Nat} (hk : k < ws.length) (h : (valS (ws.getD k ByteArray.empty)).2 = false) : numsOk ws = false := by
  have e : ws = ws.take (k + 1) ++ ws.drop (k + 1) := (List.take_append_drop _ _).symm
  rw [e, take_snoc hk, numsOk_append, numsOk_append, numsOk_cons, h]
  simp
theorem numsOk_more {ws : List ByteArray} {k : Nat} (hk : k < ws.length) (h0 : numsOk (ws.take k) = true) (h : (valS (ws.getD k ByteArray.empty)).2 = true) : numsOk (ws.take (k + 1)) = true := by
  rw [take_snoc hk, numsOk_append, h0, numsOk_cons, h]; rfl
/-- A slice of strings reads as a list. -/
def RdS (w : World) (ao : Option Addr) (xs : List ByteArray) : Prop := 0 < xs.length → ∃ b, ao = some ⟨b, 0, none⟩ ∧ ∀ i, i < xs.length → w.cell? ⟨b, i, none⟩ = some (.string (xs.getD i ByteArray.empty))
set_option maxRecDepth 100000 in
theorem l04Numbers_any (ao : Option Addr) (cap : Nat) (ws : List ByteArray) (w : World) (hr : RdS w ao ws) (hn : ws.length ≤ 1048577) (hx : ∀ x ∈ ws, x.size ≤ 1048576) :
    Calls Tryd.prog 34 #[.slice ao ws.length cap] w (MakesB 2 w (numsS ws).1 (numsS ws).2) := by
  obtain ⟨n, hnn⟩ : ∃ n, ws.length = n := ⟨_, rfl⟩
  have hn' : n ≤ 1048577 := by omega
  rw [hnn]
  have HN := Lib.hid hnn; clear hnn hn
  have HR := Lib.hid hr; clear hr
  have HX := Lib.hid hx; clear hx
  go_enter Tryd.func34, Tryd.ntmps34
  go_wp2
  have O0 : Own 2 (w.alloc (.cells #[] 2)) w.heap.size (.slice (some ⟨w.heap.size, 0, none⟩) 0 0) ((ws.take 0).map fun s => (valS s).1) := Own.of_alloc_nil (Nat.le_refl _)
  have B0 : Below w.heap.size w (w.alloc (.cells #[] 2)) := (Below.refl _ _).alloc (Nat.le_refl _) _
  go_loopw [4, 5] (fun o i wr => ∃ k : Nat, k ≤ n ∧ i = .int .i64 k ∧ Own 2 wr w.heap.size o ((ws.take k).map fun s => (valS s).1) ∧ Below w.heap.size w wr ∧ Hid (numsOk (ws.take k) = true)) (fun _ i _ => n - (intOf i).toNat)
  case atStart => exact ⟨0, Nat.zero_le _, rfl, O0, B0, rfl⟩
  case round =>
    clear O0 B0
    obtain ⟨k, hk, rfl, hown, hbel, hall⟩ := hrel
    by_cases hlt : k < n
    · have hkk : (k : Int) < (n : Int) := by omega
      have hkl : k < ws.length := by rw [HN.out]; exact hlt
      obtain ⟨b, rfl, hc⟩ := HR.out (by omega)
      have hck := hc k hkl
      have hblt : b < w.heap.size := World.block_lt_of_cell? w _ hck
      rw [← hbel.cell (p := ⟨b, k, none⟩) hblt] at hck
      have hmem : ws.getD k ByteArray.empty ∈ ws := by simp [List.getD, hkl]
      have hsz := HX.out _ hmem
      have hsnoc := take_snoc hkl
      have hmore := numsOk_more hkl hall.out
      have hstop := numsOk_stop hkl
      obtain ⟨x, hxk⟩ : ∃ x, ws.getD k ByteArray.empty = x := ⟨_, rfl⟩
      rw [hxk] at hck hsz hsnoc hmore hstop
      clear hmem hc hblt hxk
      have hll : ((ws.take k).map fun s => (valS s).1).length ≤ 4294967296 := by rw [List.length_map, List.length_take]; omega
      have HLL := Lib.hid hll; clear hll hkl
      have HS := Lib.hid hsnoc; clear hsnoc
      have HM := Lib.hid hmore; clear hmore
      have HP := Lib.hid hstop; clear hstop
      have HO := Lib.hid hown; clear hown
      have HB := Lib.hid hbel; clear hbel
      have HSZ := Lib.hid hsz; clear hsz
      have hall' := hall; clear hall
      obtain ⟨y, hy⟩ : ∃ y, (valS x).1 = y := ⟨_, rfl⟩
      have HY := Lib.hid hy; clear hy
      cases hok : (valS x).2
      · have HK := Lib.hid hok; clear hok
        have HV := Lib.hid (numsS_no (HP.out HK.out))
        go_wp2_with (go_at_call 48; refine (l01Value_any x _ HSZ.out).mono ?_; rintro e w1 ⟨rfl, b1⟩; rw [HY.out, HK.out]; have B1 := Lib.hid b1; clear b1)
        go_ret2
        rw [HV.out]
        exact ⟨_, rfl, Own.nil_, below_two HB.out B1.out⟩
      · have HK := Lib.hid hok; clear hok
        have hbs := HB.out.size
        go_wp2_with (first
          | (go_at_call 48; refine (l01Value_any x _ HSZ.out).mono ?_; rintro e w1 ⟨rfl, b1⟩; rw [HY.out, HK.out]; have B1 := Lib.hid b1; clear b1; have hb1s := B1.out.size)
          | (at_builtin; refine append_one _ rfl (.tmp 25) (.tmp 27) rfl w.heap.size Tryd.underlying27 info64 _ _ rfl ((HO.out.below B1.out).below ((Below.refl _ _).alloc (Nat.le_refl _) _)) _ _ _ rfl (new_cell rfl) HLL.out (by simp; omega) ?_; intro v' w' hown hb2))
        have O1 := Lib.hid hown; clear hown
        have B2 := Lib.hid hb2; clear hb2
        go_wp2
        go_roundw
        case rel => exact ⟨k + 1, by omega, by go_num, by rw [HS.out, List.map_append, List.map_cons, List.map_nil, HY.out]; exact O1.out, ((below_two HB.out B1.out).alloc (by omega) _).trans B2.out, HM.out HK.out⟩
        case measure => simp [intOf]; omega
    · have hkk : ¬ (k : Int) < (n : Int) := by omega
      have e : ws.take k = ws := by rw [show k = ws.length by rw [HN.out]; omega]; exact List.take_length
      rw [e] at hown hall
      have HV := Lib.hid (numsS_yes hall.out)
      have HO := Lib.hid hown; clear hown hall e
      have HB := Lib.hid hbel; clear hbel
      go_wp2
      go_ret2
      rw [HV.out]
      exact ⟨_, rfl, HO.out, HB.out⟩
end Go.Proofs.YtkidhilipeoliaaDoor
