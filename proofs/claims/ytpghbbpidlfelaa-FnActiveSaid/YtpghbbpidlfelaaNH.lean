/-
  Chapter 10: impl.ReadNodeTable.
-/
import Derived.Test.YtpghbbpidlfelaaNG
import Derived.BigQuiet
namespace Go.Proofs.Ytpghbbpidlfelaa
open Go.RowKit

theorem rt_range {xs : List Int} (h : isBytes xs = false) : readNodeTable xs = ([], 0, 2) := by unfold readNodeTable; rw [if_pos h]
theorem rt_none {xs : List Int} (h : isBytes xs = true) (h2 : readTab xs = none) : readNodeTable xs = ([], 0, 6) := by unfold readNodeTable; rw [if_neg (by rw [h]; simp), h2]
theorem rt_some {xs : List Int} {t : List Nd} {a : Nat} (h : isBytes xs = true) (h2 : readTab xs = some (t, a)) : readNodeTable xs = (t, (a : Int), 0) := by unfold readNodeTable; rw [if_neg (by rw [h]; simp), h2]
theorem readNodeTable_len (xs : List Int) : (readNodeTable xs).1.length ≤ 1048576 := by
  unfold readNodeTable
  split
  · simp
  · split
    · simp
    · rename_i p hp
      have := (isTable_iff.1 (readTab_yes hp).1).1
      simp only; omega
theorem pRead_rest {xs : List Int} {t : List Nd} {r : List Int} (hb : ∀ x ∈ xs, 0 ≤ x ∧ x ≤ 255) (h : pRead xs = some (t, r)) : r.length ≤ xs.length := by
  obtain ⟨-, h2⟩ := pRead_some hb h
  rw [h2, List.length_append]; omega
set_option maxRecDepth 100000 in
set_option maxHeartbeats 1000000 in
theorem readNodeTable_any (ao : Option Addr) (n cap : Nat) (xs : List Int) (w : World) (hr : Rd w ao n xs) (hn : n ≤ 1048576) (hcap : n ≤ cap) (hcap2 : cap ≤ 9223372036854775807) (hblk : ∀ a, ao = some a → a.block < w.heap.size) :
    Calls Try.prog 17 #[.slice ao n cap] w (MakesN3 41 w (readNodeTable xs).1 (readNodeTable xs).2.1 (readNodeTable xs).2.2) := by
  have hl := hr.len
  subst hl
  have hib := isBytes_any ao xs.length cap xs w hr (by omega)
  have HIB := Lib.hid hib; clear hib
  rcases hby : isBytes xs with _ | _
  · have HF := Lib.hid (rt_range hby)
    rw [HF.out]
    clear hr hblk
    go_enter Try.func17, Try.ntmps17
    go_wp2_with fail
    refine HIB.out.mono ?_
    rintro e w' ⟨rfl, rfl⟩
    rw [hby]
    go_wp2_with fail
    go_ret3
    exact ⟨_, rfl, OwnN.nil_, Below.refl _ _⟩
  obtain ⟨hl1, hin⟩ := isBytes_iff.1 hby
  have hb : Below w.heap.size w (w.alloc (.cells #[.slice ao xs.length cap] 68)) := (Below.refl _ _).alloc (Nat.le_refl _) _
  have hR : RdrAt (w.alloc (.cells #[.slice ao xs.length cap] 68)) w.heap.size xs := ⟨ao, cap, heap_alloc_new w _, hr.below hb, hcap, hcap2, hblk, hin⟩
  have hpe := pRead_eq hin
  rcases hp : pRead xs with _ | ⟨t, r⟩
  · rw [hp] at hpe
    have HF := Lib.hid (rt_none hby hpe)
    rw [HF.out]
    have HC := Lib.hid (read_none _ xs _ hR (by omega) hp)
    have HB := Lib.hid hb
    clear hR hb hr hpe hblk hin
    go_enter Try.func17, Try.ntmps17
    go_wp2_with fail
    refine HIB.out.mono ?_
    rintro e w' ⟨rfl, rfl⟩
    rw [hby]
    go_wp2_with fail
    refine HC.out.mono ?_
    rintro e w1 ⟨rfl, g1⟩
    have B1 := Lib.hid (HB.out.grown g1 (by simp) (fun k hk => by cases hk; exact Nat.le_refl _)); clear g1
    go_wp2_with fail
    go_ret3
    exact ⟨_, rfl, OwnN.nil_, B1.out⟩
  · rw [hp] at hpe
    have hrl := pRead_rest hin hp
    have HF := Lib.hid (rt_some hby hpe)
    have HC := Lib.hid (read_some _ xs _ hR (by omega) t r hp)
    have HB := Lib.hid hb
    clear hR hb hr hpe hblk hin
    go_enter Try.func17, Try.ntmps17
    go_wp2_with fail
    refine HIB.out.mono ?_
    rintro e w' ⟨rfl, rfl⟩
    rw [hby]
    go_wp2_with fail
    refine HC.out.mono ?_
    rintro e w1 ⟨v, rfl, o1, r1, g1⟩
    have B1 := Lib.hid (HB.out.grown g1 (by simp) (fun k hk => by cases hk; exact Nat.le_refl _))
    have O1 := Lib.hid (o1.more (base' := w.heap.size) (by simp))
    obtain ⟨ao2, cap2, hh, -, -, -, -, -⟩ := r1
    have hcell : w1.cell? ⟨w.heap.size, 0, none⟩ = some (.slice ao2 r.length cap2) := cell_of_row w1 _ 0 _ _ _ hh
    have hws : IntKind.i64.wrap ((xs.length : Int) - (r.length : Int)) = ((xs.length - r.length : Nat) : Int) := by rw [IntKind.wrap_i64]; omega
    clear g1 o1 hh
    go_wp2_with fail
    go_quiet (fail)
    go_wp2_with fail
    go_ret3
    rw [HF.out]
    exact ⟨_, rfl, O1.out.below (below_drewN' (Below.refl _ _) _), below_drewN' B1.out _⟩
end Go.Proofs.Ytpghbbpidlfelaa
