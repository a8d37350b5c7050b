/-
  Chapter 4: StateText on both sides.
-/
import Derived.Test.YtkidhilipeoliaaDoorC4q
namespace Go.Proofs.YtkidhilipeoliaaDoor
open Go.RowKit

/-- The text of a state, as a string. -/
def textStr (t m r s k : Int) : ByteArray := if isState t m r s k = false then ByteArray.empty else slashed [t, m, r, s, k]
theorem ts_1 {t m r s k : Int} (h : isState t m r s k = false) : textStr t m r s k = ByteArray.empty := by simp [textStr, h]
theorem ts_0 {t m r s k : Int} (h : isState t m r s k = true) : textStr t m r s k = slashed [t, m, r, s, k] := by simp [textStr, h]
theorem join_five (a b c d e : List UInt8) : Lib.join [a, b, c, d, e] [47] = a ++ 47 :: (b ++ 47 :: (c ++ 47 :: (d ++ 47 :: e))) := by
  simp [Lib.join, List.intercalate, List.intersperse]
theorem slashed_five (t m r s k : Nat) : slashed [(t : Int), (m : Int), (r : Int), (s : Int), (k : Int)] = decStr t ++ ⟨#[47]⟩ ++ decStr m ++ ⟨#[47]⟩ ++ decStr r ++ ⟨#[47]⟩ ++ decStr s ++ ⟨#[47]⟩ ++ decStr k := by
  unfold slashed decStr
  apply ByteArray.ext
  apply Array.toList_inj.1
  simp [join_five, Lib.itoa_nonneg]
theorem itoa_small {n : Int} (h0 : 0 ≤ n) (h1 : n ≤ 4294967295) : (Lib.itoa n).length ≤ 21 := Lib.itoa_length_le n (by omega) (by omega)
theorem rd_new5 {w : World} {t m r s k : Int} {T : Nat} : Rd (w.alloc (.cells #[.int .i64 t, .int .i64 m, .int .i64 r, .int .i64 s, .int .i64 k] T)) (some ⟨w.heap.size, 0, none⟩) 5 [t, m, r, s, k] :=
  ⟨rfl, fun _ => ⟨w.heap.size, 0, rfl, fun i hi => by
    rw [Nat.zero_add, World.cell?_alloc_at _ _ _ _ rfl]
    match i, hi with
    | 0, _ | 1, _ | 2, _ | 3, _ | 4, _ => rfl⟩⟩
theorem stateText_any (t m r s k : Int) (w : World) (hV : TabHere w) : Calls Tryd.prog 11 #[.agg #[.int .i64 t, .int .i64 m, .int .i64 r, .int .i64 s, .int .i64 k]] w (GivesStr w (textStr t m r s k)) := by
  rcases hI : isState t m r s k with _ | _
  · rw [ts_1 hI]
    have HI := Lib.hid hI; clear hI
    go_enter Tryd.func11, Tryd.ntmps11
    go_wp2_with fail
    refine (isState_any _ _ _ _ _ _).mono ?_
    rintro e w1 ⟨rfl, b1⟩
    rw [HI.out]
    go_wp2
    go_ret
    exact ⟨rfl, below_box b1⟩
  · rw [ts_0 hI]
    obtain ⟨⟨a0, a1⟩, ⟨a2, a3⟩, ⟨a4, a5⟩, ⟨a6, a7⟩, a8, a9⟩ := isState_iff.1 hI
    have HI := Lib.hid hI; clear hI
    have hsz := hV.2
    have HV := Lib.hid hV; clear hV
    have hx : ∀ x ∈ [t, m, r, s, k], -9223372036854775808 ≤ x ∧ x ≤ 9223372036854775807 := by
      intro x hx
      simp only [List.mem_cons, List.mem_nil_iff, or_false] at hx
      rcases hx with rfl | rfl | rfl | rfl | rfl <;> omega
    have hlen : (Lib.join ([t, m, r, s, k].map Lib.itoa) [47]).length ≤ 140737488355328 := by
      have h1 := itoa_small a0 (by omega)
      have h2 := itoa_small a2 (by omega)
      have h3 := itoa_small a4 (by omega)
      have h4 := itoa_small a6 (by omega)
      have h5 := itoa_small a8 (by omega)
      show (Lib.join [Lib.itoa t, Lib.itoa m, Lib.itoa r, Lib.itoa s, Lib.itoa k] [47]).length ≤ _
      rw [join_five]
      simp only [List.length_append, List.length_cons]
      omega
    have HX := Lib.hid hx; clear hx
    have HLEN := Lib.hid hlen; clear hlen
    go_enter Tryd.func11, Tryd.ntmps11
    go_wp2_with fail
    refine (isState_any _ _ _ _ _ _).mono ?_
    rintro e w1 ⟨rfl, b1⟩
    rw [HI.out]
    have S1 := state_new b1
    have c0 := S1.c0
    have c1 := S1.c1
    have c2 := S1.c2
    have c3 := S1.c3
    have c4 := S1.c4
    have HB := Lib.hid (below_box b1)
    clear S1 b1
    go_wp2_with fail
    clear c0 c1 c2 c3 c4
    have hal : Below w1.heap.size w1 (w1.alloc (.cells #[.int .i64 t, .int .i64 m, .int .i64 r, .int .i64 s, .int .i64 k] 2)) := (Below.refl _ _).alloc (Nat.le_refl _) _
    have hV2 := (HV.out.below HB.out hsz).below hal (by have := HB.out.size; omega)
    refine (separated_any w1.heap.size [t, m, r, s, k] _ hV2 rfl rd_new5 HX.out HLEN.out).mono ?_
    rintro e w2 ⟨rfl, b2⟩
    have HB2 := Lib.hid (HB.out.trans (((below_two hal b2)).mono HB.out.size))
    clear hal hV2 b2 HB
    go_wp2_with fail
    go_ret
    exact ⟨rfl, HB2.out⟩
end Go.Proofs.YtkidhilipeoliaaDoor
