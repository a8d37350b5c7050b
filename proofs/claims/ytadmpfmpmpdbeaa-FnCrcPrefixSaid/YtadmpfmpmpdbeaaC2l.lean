/-
  The laws' own Crc: made into the program's, compared; StandardCrc on both sides.
-/
import Derived.Test.YtadmpfmpmpdbeaaC2k
namespace Go.Proofs.Ytadmpfmpmpdbeaa
open Go.RowKit

/-- A struct that the call laid at its start reads as it was. -/
theorem crc_kept {w w' : World} {wd p : Int} {T : Nat} (h : Below (w.alloc (.cells #[.int .i64 wd, .int .i64 p] T)).heap.size (w.alloc (.cells #[.int .i64 wd, .int .i64 p] T)) w') :
    w'.cell? ⟨w.heap.size, 0, none⟩ = some (.int .i64 wd) ∧ w'.cell? ⟨w.heap.size, 1, none⟩ = some (.int .i64 p) :=
  ⟨(h.cell (p := ⟨w.heap.size, 0, none⟩) (by simp)).trans (struct_cells wd p T).1, (h.cell (p := ⟨w.heap.size, 1, none⟩) (by simp)).trans (struct_cells wd p T).2⟩
theorem crcTable_len (wd p : Int) : (crcTable wd p).1.length ≤ 8192 := by
  rcases h : isCrc wd p with _ | _
  · rw [ct_1 h]; simp
  · rw [ct_0 h]; unfold crcTab; rw [List.length_map, List.length_range]; omega
/-- A struct of two numbers handed back. -/
def GivesCrc (w : World) (wd p : Int) (e : Ending) (w' : World) : Prop := e = .returned (.agg #[.int .i64 wd, .int .i64 p]) ∧ Below w.heap.size w w'
theorem toCrc_any (wd p : Int) (w : World) : Calls Try.prog 42 #[.agg #[.int .i64 wd, .int .i64 p]] w (GivesCrc w wd p) := by
  go_enter Try.func42, Try.ntmps42
  go_wp2
  exact bodyPost_ret (v := .agg #[.int .i64 wd, .int .i64 p]) (by simp [results, Try.results42, go_sem]) rfl ⟨rfl, (((Below.refl _ _).alloc (Nat.le_refl _) _).alloc (by simp) _).alloc (by simp; omega) _⟩
theorem sStandardCrc_any (w : World) : Calls Try.prog 43 #[] w (GivesCrc w 24 6122955) := by
  go_enter Try.func43, Try.ntmps43
  go_wp2
  exact bodyPost_ret (v := .agg #[.int .i64 24, .int .i64 6122955]) (by simp [results, Try.results43, go_sem]) rfl ⟨rfl, (Below.refl _ _).alloc (Nat.le_refl _) _⟩
theorem standardCrc_any (w : World) : Calls Try.prog 44 #[] w (GivesCrc w 24 6122955) := by
  go_enter Try.func44, Try.ntmps44
  go_wp2
  exact bodyPost_ret (v := .agg #[.int .i64 24, .int .i64 6122955]) (by simp [results, Try.results44, go_sem]) rfl ⟨rfl, (Below.refl _ _).alloc (Nat.le_refl _) _⟩
theorem eqCrc_any (wd p : Int) (w : World) : Calls Try.prog 45 #[.agg #[.int .i64 wd, .int .i64 p], .agg #[.int .i64 wd, .int .i64 p]] w fun e w' => e = .returned (.bool true) ∧ Below w.heap.size w w' := by
  have h1 : (wd != wd) = false := by simp
  have h2 : (p != p) = false := by simp
  go_enter Try.func45, Try.ntmps45
  go_wp2
  go_ret
  exact ⟨rfl, ((Below.refl _ _).alloc (Nat.le_refl _) _).alloc (by simp) _⟩
end Go.Proofs.Ytadmpfmpmpdbeaa
