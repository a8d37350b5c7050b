/-
  Chapter 4: spec.l04Draw.
  Chapter 4: spec.l04DrawAny.
  Chapter 4: spec.DrawStateDistance.
  What FnStateDistances says, as plain facts on numbers.
  Chapter 4: spec.DrawAdvanceState.
  What FnAdvanced says, as plain facts on numbers.
-/
import Derived.Test.YtggnoeeaoligdaaFourA
import Derived.Test.YtggnoeeaoligdaaDrawA
import Derived.Test.YtggnoeeaoligdaaDrawC
import Derived.Deep.RegionHeld3
import Derived.Deep.RegionWith
namespace Go.Proofs.Ytggnoeeaoligdaa
section
open Go.RowKit

/-- What a draw of a state leaves: some state; of old memory only the source has been written. -/
def DrawnState (T : Nat) (w : World) (p : Nat) (e : Ending) (w' : World) : Prop :=
  ∃ t m r s k : Int, e = .returned (.agg #[.int .i64 t, .int .i64 m, .int .i64 r, .int .i64 s, .int .i64 k]) ∧ Src T w' p ∧ w.grownBy w' (some p)

end

section
open Go.RowKit

end

section
open Go.RowKit

/-- What a draw of two states leaves. -/
def DrawnTwo (w : World) (e : Ending) (w' : World) : Prop :=
  ∃ t m r s k t' m' r' s' k' : Int, e = .returned (.tuple #[.agg #[.int .i64 t, .int .i64 m, .int .i64 r, .int .i64 s, .int .i64 k], .agg #[.int .i64 t', .int .i64 m', .int .i64 r', .int .i64 s', .int .i64 k']]) ∧ Below w.heap.size w w'
theorem below_cell (D i : Nat) (q : Int) (w : World) : Below D w (w.setCell ⟨D, i, none⟩ (.int .i64 q)) := (Below.refl D w).setCell (p := ⟨D, i, none⟩) (Nat.le_refl _) _
theorem HeldS.stillB {E T : Nat} {w0 w w' : World} {p B : Nat} (h : HeldS E T w0 w p []) (b : Below B w w') (hp : p < B) : HeldS E T w0 w' p [] :=
  ⟨h.below.trans (b.mono (by have := h.lo; omega)), h.lo, h.src.belowB b hp, (fun _ h => by cases h), List.Pairwise.nil⟩
theorem StateAt.drew {T b : Nat} {w : World} {t m r s k : Int} (h : StateAt T w b t m r s k) : StateAt T w.drew b t m r s k := h
theorem StateAt.far5 {T b c : Nat} {w : World} {t m r s k : Int} (h : StateAt T w c t m r s k) (hne : c ≠ b) (t' m' r' s' k' : Int) : StateAt T (setFive w b t' m' r' s' k') c t m r s k :=
  ((((h.other (c := b) hne).other (c := b) hne).other (c := b) hne).other (c := b) hne).other (c := b) hne

end

section

theorem bitDist_sym (t m r s k t' m' r' s' k' : Int) : bitDist t m r s k t' m' r' s' k' = bitDist t' m' r' s' k' t m r s k := by
  unfold bitDist; rw [diffTo_sym]
theorem bitDist_zero {t m r s k t' m' r' s' k' : Int} (h : isState t m r s k = true) (h' : isState t' m' r' s' k' = true) : bitDist t m r s k t' m' r' s' k' = 0 ↔ t = t' ∧ m = m' ∧ r = r' ∧ s = s' ∧ k = k' := by
  have h1 := diffTo_zero (xs := stateBits t m r s k) (ys := stateBits t' m' r' s' k') (by rw [stateBits_len, stateBits_len])
  rw [stateBits_len] at h1
  unfold bitDist
  rw [h1]
  constructor
  · exact stateBits_inj h h'
  · rintro ⟨rfl, rfl, rfl, rfl, rfl⟩; rfl
theorem dist_valid {t m r s k t' m' r' s' k' d : Int} (h : distOf t m r s k t' m' r' s' k' = (d, 0)) : isState t m r s k = true ∧ isState t' m' r' s' k' = true := by
  rcases hA : isState t m r s k with _ | _
  · rw [di_1 hA] at h; simp at h
  · rcases hB : isState t' m' r' s' k' with _ | _
    · rw [di_2 hB] at h; simp at h
    · exact ⟨rfl, rfl⟩
theorem dist_back {t m r s k t' m' r' s' k' d : Int} (h : distOf t m r s k t' m' r' s' k' = (d, 0)) : distOf t' m' r' s' k' t m r s k = (d, 0) := by
  obtain ⟨hA, hB⟩ := dist_valid h
  rw [di_0 hA hB] at h
  rw [di_0 hB hA, bitDist_sym]
  exact h
theorem distS_zero {t m r s k t' m' r' s' k' d : Int} (h : distOf t m r s k t' m' r' s' k' = (d, 0)) : (d == 0) = decide (t = t' ∧ m = m' ∧ r = r' ∧ s = s' ∧ k = k') := by
  obtain ⟨hA, hB⟩ := dist_valid h
  rw [di_0 hA hB] at h
  have hd : (bitDist t m r s k t' m' r' s' k' : Int) = d := congrArg Prod.fst h
  rw [Bool.eq_iff_iff, decide_eq_true_eq, ← bitDist_zero hA hB, ← hd, beq_iff_eq]
  omega
theorem time_back {t m r s k t' m' r' s' k' d : Int} (h : distOf t m r s k t' m' r' s' k' = (d, 0)) :
    ∃ x y, timeOf t m r s k t' m' r' s' k' = (x, 0) ∧ timeOf t' m' r' s' k' t m r s k = (y, 0) ∧ -32768 ≤ x ∧ x ≤ 32767 ∧ (x = -32768 ∧ y = -32768 ∨ x ≠ -32768 ∧ y = -x) := by
  obtain ⟨hA, hB⟩ := dist_valid h
  have r1 := time_range t t'
  have r2 := time_range t' t
  have r3 := time_sign t t'
  exact ⟨_, _, to_0 hA hB, to_0 hB hA, r1.1, r1.2, by omega⟩
end

section
open Go.RowKit

/-- What a draw of a state and three numbers leaves. -/
def DrawnAdv (w : World) (e : Ending) (w' : World) : Prop :=
  ∃ t m r s k d sl rd : Int, e = .returned (.tuple #[.agg #[.int .i64 t, .int .i64 m, .int .i64 r, .int .i64 s, .int .i64 k], .int .i64 d, .int .i64 sl, .int .i64 rd]) ∧ Below w.heap.size w w'
def four (a b c d : Int) (z : Nat) : Int := if z = 0 then a else if z = 1 then b else if z = 2 then c else d
theorem four_arr (a b c d : Int) (z : Nat) (hz : z < 4) : (#[.int .i64 a, .int .i64 b, .int .i64 c, .int .i64 d] : Array Value)[z]? = some (.int .i64 (four a b c d z)) := by
  match z, hz with
  | 0, _ | 1, _ | 2, _ | 3, _ => rfl
theorem four_list (a b c d : Int) (z : Nat) (hz : z < 4) : ([.int .i64 a, .int .i64 b, .int .i64 c, .int .i64 d] : List Value)[z]? = some (.int .i64 (four a b c d z)) := by
  match z, hz with
  | 0, _ | 1, _ | 2, _ | 3, _ => rfl
theorem four_alloc (a b c d : Int) (z : Nat) (hz : z < 4) (T : Nat) : ∀ W : World, (W.alloc (.cells #[.int .i64 a, .int .i64 b, .int .i64 c, .int .i64 d] T)).cell? ⟨W.heap.size, z, none⟩ = some (.int .i64 (four a b c d z)) := fun W => by
  rw [World.cell?_alloc_at _ _ _ _ rfl]; exact four_arr a b c d z hz
theorem four_cell {w w' : World} {T p : Nat} {a b c d : Int} (hg : (w.alloc (.cells #[.int .i64 a, .int .i64 b, .int .i64 c, .int .i64 d] T)).grownBy w' (some p)) (hp : p < w.heap.size) (z : Nat) (hz : z < 4) : w'.cell? ⟨w.heap.size, z, none⟩ = some (.int .i64 (four a b c d z)) := by
  rw [table_cell hg hp z]; exact four_arr a b c d z hz

end

section

theorem advance_get {t m r s k d sl rd q0 q1 q2 q3 q4 : Int} (h : advanced t m r s k d sl rd = (q0, q1, q2, q3, q4, 0)) :
    isState t m r s k = true ∧ (0 ≤ d ∧ d ≤ 65535) ∧ (1 ≤ sl ∧ sl ≤ 256) ∧ (1 ≤ rd ∧ rd ≤ 16) ∧ s < sl ∧ r < rd ∧ q0 = (t + d) % 65536 ∧ q1 = m ∧ q2 = (stepRS sl rd r s).1 ∧ q3 = (stepRS sl rd r s).2 ∧ q4 = k := by
  rcases hA : isState t m r s k with _ | _
  · rw [ad_1 hA] at h; simp at h
  · rcases hm : mayAdvance r s d sl rd with _ | _
    · rw [ad_2 hA hm] at h; simp at h
    · rw [ad_0 hA hm] at h
      obtain ⟨b1, b2, b3, b4, b5⟩ := may_iff.1 hm
      simp only [Prod.mk.injEq] at h
      exact ⟨rfl, b1, b2, b3, b4, b5, h.1.symm, h.2.1.symm, h.2.2.1.symm, h.2.2.2.1.symm, h.2.2.2.2.1.symm⟩
theorem advance_time {t m r s k d sl rd q0 q1 q2 q3 q4 : Int} (h : advanced t m r s k d sl rd = (q0, q1, q2, q3, q4, 0)) :
    ∃ x, timeOf t m r s k q0 q1 q2 q3 q4 = (x, 0) ∧ -32768 ≤ x ∧ x ≤ 32767 ∧ (x - d).tmod 65536 = 0 := by
  obtain ⟨hA, -, b2, b3, b4, b5, rfl, rfl, rfl, rfl, rfl⟩ := advance_get h
  obtain ⟨a1, a2, a3, a4, a5⟩ := isState_iff.1 hA
  have hin := steps_in (slots := sl) (rounds := rd) (r := r) (s := s) ⟨a4.1, b4⟩ ⟨a3.1, b5⟩ 1
  have hB : isState ((t + d) % 65536) q1 (stepRS sl rd r s).1 (stepRS sl rd r s).2 q4 = true := by
    have e : stepsRS sl rd 1 r s = stepRS sl rd r s := rfl
    rw [e] at hin
    exact isState_iff.2 ⟨by omega, a2, by omega, by omega, a5⟩
  have hr := time_range t ((t + d) % 65536)
  refine ⟨_, to_0 hA hB, hr.1, hr.2, ?_⟩
  exact Int.tmod_eq_zero_of_dvd (Int.dvd_of_emod_eq_zero (time_advance t d))
theorem advance_one {t m k d sl rd R S : Int} (ht : 0 ≤ t ∧ t ≤ 65535) (hm : 0 ≤ m ∧ m ≤ 15) (hk : 0 ≤ k ∧ k ≤ 4294967295) (hd : 0 ≤ d ∧ d ≤ 65535) (hsl : 1 ≤ sl ∧ sl ≤ 256) (hrd : 1 ≤ rd ∧ rd ≤ 16) (hR : 0 ≤ R ∧ R < rd) (hS : 0 ≤ S ∧ S < sl) :
    advanced t m R S k d sl rd = ((t + d) % 65536, m, (stepRS sl rd R S).1, (stepRS sl rd R S).2, k, 0) :=
  ad_0 (isState_iff.2 ⟨ht, hm, by omega, by omega, hk⟩) (may_iff.2 ⟨hd, hsl, hrd, hS.2, hR.2⟩)
theorem steps_next {sl rd r s R S : Int} {j : Nat} (h : stepsRS sl rd j r s = (R, S)) : stepsRS sl rd (j + 1) r s = stepRS sl rd R S := by
  unfold stepsRS
  rw [h]
theorem steps_bound {sl rd r s R S : Int} {j : Nat} (h : stepsRS sl rd j r s = (R, S)) (hs : 0 ≤ s ∧ s < sl) (hr : 0 ≤ r ∧ r < rd) : (0 ≤ R ∧ R < rd) ∧ 0 ≤ S ∧ S < sl := by
  have := steps_in hs hr j
  rwa [h] at this
theorem steps_end {sl rd r s R S : Int} (h : stepsRS sl rd sl.toNat r s = (R, S)) (hs : 0 ≤ s ∧ s < sl) : R = (r + 1) % rd ∧ S = s := by
  rw [steps_round hs.1 hs.2] at h
  exact ⟨(congrArg Prod.fst h).symm, (congrArg Prod.snd h).symm⟩
theorem state_neq_self (t m r s k : Int) (w : World) : (binOp .neq 215 (.agg #[.int .i64 t, .int .i64 m, .int .i64 r, .int .i64 s, .int .i64 k]) (.agg #[.int .i64 t, .int .i64 m, .int .i64 r, .int .i64 s, .int .i64 k])).run Try.prog w = .ok (.bool false) w := by
  have he := state_eql t m r s k t m r s k w
  rw [run_eql_struct] at he
  rw [run_neq_struct]
  rcases hq : (Op.equalIn 10000 215 (.agg #[.int .i64 t, .int .i64 m, .int .i64 r, .int .i64 s, .int .i64 k]) (.agg #[.int .i64 t, .int .i64 m, .int .i64 r, .int .i64 s, .int .i64 k])).run Try.prog w with ⟨b, w'⟩ | _
  · rw [hq] at he
    simp [Result.andThen] at he ⊢
    exact he
  · rw [hq] at he
    simp [Result.andThen] at he
end
end Go.Proofs.Ytggnoeeaoligdaa
