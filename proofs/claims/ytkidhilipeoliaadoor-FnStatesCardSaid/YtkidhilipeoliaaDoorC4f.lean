/-
  Chapter 4: StateToBits on both sides.
-/
import Derived.Test.YtkidhilipeoliaaDoorC4e
import Derived.Test.YtkidhilipeoliaaDoorOne
namespace Go.Proofs.YtkidhilipeoliaaDoor
open Go.RowKit

/-- What StateToBits answers. -/
def stateToBits (t m r s k : Int) : List Int × Int := if isState t m r s k = false then ([], 1) else (stateBits t m r s k, 0)
theorem sb_1 {t m r s k : Int} (h : isState t m r s k = false) : stateToBits t m r s k = ([], 1) := by simp [stateToBits, h]
theorem sb_0 {t m r s k : Int} (h : isState t m r s k = true) : stateToBits t m r s k = (stateBits t m r s k, 0) := by simp [stateToBits, h]
theorem stateToBits_len (t m r s k : Int) : (stateToBits t m r s k).1.length ≤ 8192 := by
  rcases h : isState t m r s k with _ | _
  · rw [sb_1 h]; simp
  · rw [sb_0 h]; simp only; rw [stateBits_len]; omega
theorem sStateToBits_any (t m r s k : Int) (w : World) : Calls Tryd.prog 7 #[.agg #[.int .i64 t, .int .i64 m, .int .i64 r, .int .i64 s, .int .i64 k]] w (Makes2 2 w (stateToBits t m r s k).1 (stateToBits t m r s k).2) := by
  rcases hI : isState t m r s k with _ | _
  · rw [sb_1 hI]
    have HI := Lib.hid hI; clear hI
    go_enter Tryd.func7, Tryd.ntmps7
    go_wp2_with fail
    refine (sIsState_any _ _ _ _ _ _).mono ?_
    rintro e w1 ⟨rfl, b1⟩
    rw [HI.out]
    go_wp2
    go_ret2
    exact ⟨_, rfl, Own.nil_, below_box b1⟩
  · rw [sb_0 hI]
    have HI := Lib.hid hI; clear hI
    go_enter Tryd.func7, Tryd.ntmps7
    go_wp2_with fail
    refine (sIsState_any _ _ _ _ _ _).mono ?_
    rintro e w1 ⟨rfl, b1⟩
    rw [HI.out]
    have S1 := state_new b1
    have c0 := S1.c0
    have c1 := S1.c1
    have c2 := S1.c2
    have c3 := S1.c3
    have c4 := S1.c4
    clear S1
    go_wp2_with fail
    clear c0 c1 c2 c3 c4
    refine (l04Bits_any _ _ _ _ _ _).mono ?_
    rintro e w2 ⟨v, rfl, o2, b2⟩
    have B1 := below_box b1
    have O2 := Lib.hid (o2.more B1.size)
    have B2 := Lib.hid (below_two B1 b2)
    clear o2 b2 b1 B1
    go_wp2
    go_ret2
    exact ⟨_, rfl, O2.out, B2.out⟩

/-! ### the program's: a list of fields -/
def fieldBits (fs : List (Int × Nat)) : List Int := fs.flatMap fun f => bitsOf f.1 f.2
theorem fieldBits_succ (fs : List (Int × Nat)) (k : Nat) (hk : k < fs.length) : fieldBits (fs.take (k + 1)) = fieldBits (fs.take k) ++ bitsOf (fs.getD k (0, 0)).1 (fs.getD k (0, 0)).2 := by
  unfold fieldBits
  rw [List.take_add_one, List.getElem?_eq_getElem hk, List.flatMap_append]
  simp [List.getD, hk]
theorem fieldBits_len (fs : List (Int × Nat)) (h : ∀ f ∈ fs, f.2 ≤ 40) : (fieldBits fs).length ≤ 40 * fs.length := by
  induction fs with
  | nil => simp [fieldBits]
  | cons f fs ih =>
    have h1 := h f (by simp)
    have h2 := ih fun g hg => h g (by simp [hg])
    unfold fieldBits at h2 ⊢
    rw [List.flatMap_cons, List.length_append, bitsOf_len, List.length_cons]
    omega
set_option maxRecDepth 100000 in
theorem bitsOfFields_any (b cap : Nat) (fs : List (Int × Nat)) (w : World) (hn : fs.length ≤ 8) (hw : ∀ f ∈ fs, f.2 ≤ 40) (hb : b < w.heap.size)
    (hc : ∀ i, i < fs.length → w.cell? ⟨b, i * 2, none⟩ = some (.int .i64 (fs.getD i (0, 0)).1) ∧ w.cell? ⟨b, i * 2 + 1, none⟩ = some (.int .i64 ((fs.getD i (0, 0)).2 : Nat))) :
    Calls Tryd.prog 38 #[.slice (some ⟨b, 0, none⟩) fs.length cap] w (Makes 2 w (fieldBits fs)) := by
  obtain ⟨n, hN⟩ : ∃ n, n = fs.length := ⟨_, rfl⟩
  rw [← hN] at hn hc ⊢
  have HN := Lib.hid hN; clear hN
  have HC := Lib.hid hc; clear hc
  have HW := Lib.hid hw; clear hw
  go_enter Tryd.func38, Tryd.ntmps38
  go_wp2
  go_loopw [3, 8] (fun v i wr => ∃ k : Nat, k ≤ n ∧ i = .int .i64 k ∧ Own 2 wr w.heap.size v (fieldBits (fs.take k)) ∧ Below w.heap.size w wr) (fun _ i _ => n - (intOf i).toNat)
  case atStart => exact ⟨0, Nat.zero_le _, rfl, Own.nil_, Below.refl _ _⟩
  case round =>
    obtain ⟨k, hk, rfl, hown, hbel⟩ := hrel
    by_cases hlt : k < n
    · have hkf : k < fs.length := by rw [← HN.out]; exact hlt
      obtain ⟨hc0, hc1⟩ := HC.out k hlt
      have hwk : (fs.getD k (0, 0)).2 ≤ 40 := HW.out _ (by simp [List.getD, hkf])
      have hlen : (fieldBits (fs.take k)).length ≤ 1048576 := by
        have := fieldBits_len (fs.take k) fun f hf => HW.out f (List.mem_of_mem_take hf)
        rw [List.length_take] at this
        omega
      have hfin := fieldBits_succ fs k hkf
      generalize fs.getD k (0, 0) = f at hc0 hc1 hwk hfin
      obtain ⟨x, d⟩ := f
      simp only at hc0 hc1 hwk hfin
      have d0 := (hbel.cell (p := ⟨b, k * 2, none⟩) hb).trans hc0
      have d1 := (hbel.cell (p := ⟨b, k * 2 + 1, none⟩) hb).trans hc1
      have hsz := hbel.size
      have HL := Lib.hid hlen
      have HF := Lib.hid hfin
      have HO := Lib.hid hown
      have HB := Lib.hid hbel
      clear hlen hfin hown hbel hc0 hc1 hkf
      go_wp2_with fail
      have hba : Below wr.heap.size wr (wr.alloc (.cells #[.int .i64 x, .int .i64 (d : Nat)] 67)) := (Below.refl _ _).alloc (Nat.le_refl _) _
      have HBA := Lib.hid hba; clear hba d0 d1
      refine (push_any w.heap.size _ _ x d _ (HO.out.below HBA.out) HL.out (by simp; omega) hwk).mono ?_
      rintro e w' ⟨v, rfl, o, bl⟩
      rw [← HF.out] at o
      have HO' := Lib.hid o
      have HB' := Lib.hid (below_two' (below_two' HB.out (HBA.out.mono hsz)) bl)
      clear o bl HO HB HBA HF HL
      go_wp2
      go_roundw
      case rel => exact ⟨k + 1, by omega, by go_num, HO'.out, HB'.out⟩
      case measure => simp [intOf]; omega
    · have hkn : k = n := by omega
      subst hkn
      have ho : Own 2 wr w.heap.size u3 (fieldBits fs) := by have h := hown; rwa [List.take_of_length_le (by rw [HN.out]; exact Nat.le_refl _)] at h
      have HO := Lib.hid ho
      have HB := Lib.hid hbel
      clear ho hown hbel
      go_wp2
      go_ret
      exact ⟨_, rfl, HO.out, HB.out⟩
/-- The five fields of a state in a new block. -/
theorem fields5_any (t m r s k : Int) (w : World) (b T : Nat) (hb : b = w.heap.size) :
    Calls Tryd.prog 38 #[.slice (some ⟨b, 0, none⟩) 5 5] (w.alloc (.cells #[.int .i64 t, .int .i64 16, .int .i64 m, .int .i64 4, .int .i64 r, .int .i64 4, .int .i64 s, .int .i64 8, .int .i64 k, .int .i64 32] T))
      (Makes 2 (w.alloc (.cells #[.int .i64 t, .int .i64 16, .int .i64 m, .int .i64 4, .int .i64 r, .int .i64 4, .int .i64 s, .int .i64 8, .int .i64 k, .int .i64 32] T)) (stateBits t m r s k)) := by
  subst hb
  have h := bitsOfFields_any w.heap.size 5 [(t, 16), (m, 4), (r, 4), (s, 8), (k, 32)] (w.alloc (.cells #[.int .i64 t, .int .i64 16, .int .i64 m, .int .i64 4, .int .i64 r, .int .i64 4, .int .i64 s, .int .i64 8, .int .i64 k, .int .i64 32] T)) (by simp) (by
    intro f hf
    simp only [List.mem_cons, List.mem_nil_iff, or_false] at hf
    rcases hf with rfl | rfl | rfl | rfl | rfl <;> simp) (by simp) (by
    intro i hi
    have hc : ∀ j, (w.alloc (.cells #[.int .i64 t, .int .i64 16, .int .i64 m, .int .i64 4, .int .i64 r, .int .i64 4, .int .i64 s, .int .i64 8, .int .i64 k, .int .i64 32] T)).cell? ⟨w.heap.size, j, none⟩ = (#[.int .i64 t, .int .i64 16, .int .i64 m, .int .i64 4, .int .i64 r, .int .i64 4, .int .i64 s, .int .i64 8, .int .i64 k, .int .i64 32] : Array Value)[j]? := fun j => World.cell?_alloc_at _ _ _ _ rfl
    rw [hc, hc]
    match i, hi with
    | 0, _ => exact ⟨rfl, rfl⟩
    | 1, _ => exact ⟨rfl, rfl⟩
    | 2, _ => exact ⟨rfl, rfl⟩
    | 3, _ => exact ⟨rfl, rfl⟩
    | 4, _ => exact ⟨rfl, rfl⟩)
  have e : fieldBits [(t, 16), (m, 4), (r, 4), (s, 8), (k, 32)] = stateBits t m r s k := by simp [fieldBits, stateBits]
  rw [e] at h
  exact h
theorem bitsOfState_any (t m r s k : Int) (w : World) : Calls Tryd.prog 21 #[.agg #[.int .i64 t, .int .i64 m, .int .i64 r, .int .i64 s, .int .i64 k]] w (Makes 2 w (stateBits t m r s k)) := by
  go_enter Tryd.func21, Tryd.ntmps21
  go_wp2_with fail
  refine (fields5_any t m r s k _ _ _ (by simp)).mono ?_
  rintro e w2 ⟨v, rfl, o2, b2⟩
  have O2 := Lib.hid (o2.more (base' := w.heap.size) (by simp; omega))
  have B2 := Lib.hid (below_box2 b2)
  clear o2 b2
  go_wp2
  go_ret
  exact ⟨_, rfl, O2.out, B2.out⟩
theorem stateToBits_any (t m r s k : Int) (w : World) : Calls Tryd.prog 6 #[.agg #[.int .i64 t, .int .i64 m, .int .i64 r, .int .i64 s, .int .i64 k]] w (Makes2 2 w (stateToBits t m r s k).1 (stateToBits t m r s k).2) := by
  rcases hI : isState t m r s k with _ | _
  · rw [sb_1 hI]
    have HI := Lib.hid hI; clear hI
    go_enter Tryd.func6, Tryd.ntmps6
    go_wp2_with fail
    refine (isState_any _ _ _ _ _ _).mono ?_
    rintro e w1 ⟨rfl, b1⟩
    rw [HI.out]
    go_wp2
    go_ret2
    exact ⟨_, rfl, Own.nil_, below_box b1⟩
  · rw [sb_0 hI]
    have HI := Lib.hid hI; clear hI
    go_enter Tryd.func6, Tryd.ntmps6
    go_wp2_with fail
    refine (isState_any _ _ _ _ _ _).mono ?_
    rintro e w1 ⟨rfl, b1⟩
    rw [HI.out]
    have S1 := state_new b1
    have c0 := S1.c0
    have c1 := S1.c1
    have c2 := S1.c2
    have c3 := S1.c3
    have c4 := S1.c4
    clear S1
    go_wp2_with fail
    clear c0 c1 c2 c3 c4
    refine (bitsOfState_any _ _ _ _ _ _).mono ?_
    rintro e w2 ⟨v, rfl, o2, b2⟩
    have B1 := below_box b1
    have O2 := Lib.hid (o2.more B1.size)
    have B2 := Lib.hid (below_two B1 b2)
    clear o2 b2 b1 B1
    go_wp2
    go_ret2
    exact ⟨_, rfl, O2.out, B2.out⟩
end Go.Proofs.YtkidhilipeoliaaDoor
