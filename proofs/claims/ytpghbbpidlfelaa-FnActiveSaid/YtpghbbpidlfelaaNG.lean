/-
  Chapter 10: the program's reader recovers; impl.ReadNodeTable.
-/
import Derived.Test.YtpghbbpidlfelaaNF
import Derived.Defers
import Derived.Recover
import Derived.Laws.Pointers
namespace Go.Proofs.Ytpghbbpidlfelaa
open Go.RowKit

theorem catch_panicking (a : Addr) (x : Int) (u : TypeId) (pv : Value) (older : List PanicEntry) (w : World) (hc : w.cell? a = some (.int .i64 x)) (hz : w.frozen? a = false) :
    CallsD Try.prog 71 #[.pointer (some a)] (.panicking ({ v := .iface u pv, recovered := false } :: older)) w fun e u' w' =>
      e = .returned (.tuple #[]) ∧ u' = .panicking ({ v := .iface u pv, recovered := true } :: older) ∧ w' = w.setCell a (.int .i64 6) := by
  refine callsD_of_wpS Try.func71 rfl fun c₀ cs hu => ?_
  apply wpS_seq
  apply wpS_region
  simp [wpOpsS, go_sem, recoverD, hu, Try.ntmps71, Exit.thenS]
  refine wpS_cond (t := true) (by simp [Act.eval, Array.replicate]) ?_
  simp only [if_true]
  apply wpS_region
  simp [wpOpsS, go_sem, hc, hz, bodyPostS, results, Try.results71]
theorem catch_idle (a : Addr) (w : World) :
    CallsD Try.prog 71 #[.pointer (some a)] .returning w fun e u' w' => e = .returned (.tuple #[]) ∧ u' = .returning ∧ w' = w := by
  refine callsD_of_wpS Try.func71 rfl fun c₀ cs hu => ?_
  apply wpS_seq
  apply wpS_region
  simp [wpOpsS, go_sem, recoverD, hu, Try.ntmps71, Exit.thenS]
  refine wpS_cond (t := false) (by simp [Act.eval, Array.replicate]) ?_
  simp only [Bool.false_eq_true, if_false]
  refine wpS_of_wp (wp_skip ?_)
  cases c₀
  simp_all [bodyPostS, results, Try.results71]
/-- What read leaves. -/
def GotR (w : World) (p : Nat) (o : Option (List Nd × List Int)) (e : Ending) (w' : World) : Prop :=
  match o with
  | some (t, r) => ∃ v, e = .returned (.tuple #[v, .int .i64 0]) ∧ OwnN 41 w' w.heap.size v t ∧ RdrAt w' p r ∧ w.grownBy w' (some p)
  | none => e = .returned (.tuple #[.slice none 0 0, .int .i64 6]) ∧ w.grownBy w' (some p)
set_option maxRecDepth 100000 in
theorem read_none (p : Nat) (rest : List Int) (w : World) (h : RdrAt w p rest) (hlen : rest.length ≤ 1048576) (hp : pRead rest = none) :
    Calls Try.prog 54 #[.pointer (some ⟨p, 0, none⟩)] w (GotR w p none) := by
  have hmf : ∀ (fn : Fn) (first cap : Array Value) (w : World), (Instr.makeFunc fn first cap).run Try.prog w = .ok (.func fn first cap) w := fun _ _ _ _ => rfl
  have hb : Below w.heap.size w (w.alloc (.cells #[.int .i64 0] 2)) := (Below.refl _ _).alloc (Nat.le_refl _) _
  have hpl := h.lt
  have hr1 := h.below hb h.lt
  have HC := Lib.hid (table_any p rest _ hr1 hlen)
  have hcell : (w.alloc (.cells #[.int .i64 0] 2)).cell? ⟨w.heap.size, 0, none⟩ = some (.int .i64 0) := new_cell rfl
  have hfz : (w.alloc (.cells #[.int .i64 0] 2)).heap[w.heap.size]? = some (.cells #[.int .i64 0] 2 (0, 0)) := heap_alloc_new w _
  have HFZ := Lib.hid hfz; have HB := Lib.hid hb
  clear hr1 h hb hfz
  go_enter_defers Try.func54, Try.ntmps54
  go_wp2_with fail
  refine HC.out.mono ?_
  rintro e w1 hg
  rw [hp] at hg
  obtain ⟨⟨u, v, rfl⟩, g1⟩ := hg
  have h1 : w1.heap[w.heap.size]? = some (.cells #[.int .i64 0] 2 (0, 0)) := (g1.block w.heap.size (by simp) (by simp; omega)).trans HFZ.out
  have c1 : w1.cell? ⟨w.heap.size, 0, none⟩ = some (.int .i64 0) := cell_of_row w1 _ 0 _ _ _ h1
  have f1 : w1.frozen? ⟨w.heap.size, 0, none⟩ = false := frozen_of_row w1 _ 0 _ _ h1
  have hG := grown_trans (grown_of_b HB.out (some p)) g1
  go_wp2_with fail
  refine leaves_cons (f := 71) (args := #[.pointer (some ⟨w.heap.size, 0, none⟩)]) (by simp) (by simp [go_sem]) ?_
  refine (catch_panicking ⟨w.heap.size, 0, none⟩ 0 u v [] _ c1 f1).mono ?_
  rintro e u' w'' ⟨rfl, rfl, rfl⟩
  have h2 := heap_setCell_same w1 w.heap.size 0 _ _ (.int .i64 6) h1
  have c2 : (w1.setCell ⟨w.heap.size, 0, none⟩ (.int .i64 6)).cell? ⟨w.heap.size, 0, none⟩ = some (.int .i64 6) := by
    rw [cell_of_row _ _ 0 _ _ _ h2]; rfl
  have hbs : Below w.heap.size w1 (w1.setCell ⟨w.heap.size, 0, none⟩ (.int .i64 6)) := (Below.refl _ _).setCell (by exact Nat.le_refl _) _
  have hG2 := grown_low hG hbs
  simp [Leaves, settle, results, Try.results54, go_sem, c2]
  exact ⟨rfl, hG2⟩
set_option maxRecDepth 100000 in
theorem read_some (p : Nat) (rest : List Int) (w : World) (h : RdrAt w p rest) (hlen : rest.length ≤ 1048576) (t : List Nd) (r : List Int) (hp : pRead rest = some (t, r)) :
    Calls Try.prog 54 #[.pointer (some ⟨p, 0, none⟩)] w (GotR w p (some (t, r))) := by
  have hmf : ∀ (fn : Fn) (first cap : Array Value) (w : World), (Instr.makeFunc fn first cap).run Try.prog w = .ok (.func fn first cap) w := fun _ _ _ _ => rfl
  have hb : Below w.heap.size w (w.alloc (.cells #[.int .i64 0] 2)) := (Below.refl _ _).alloc (Nat.le_refl _) _
  have hpl := h.lt
  have hr1 := h.below hb h.lt
  have HC := Lib.hid (table_any p rest _ hr1 hlen)
  have hfz : (w.alloc (.cells #[.int .i64 0] 2)).heap[w.heap.size]? = some (.cells #[.int .i64 0] 2 (0, 0)) := heap_alloc_new w _
  have HFZ := Lib.hid hfz; have HB := Lib.hid hb
  clear hr1 h hb hfz
  go_enter_defers Try.func54, Try.ntmps54
  go_wp2_with fail
  refine HC.out.mono ?_
  rintro e w1 hg
  rw [hp] at hg
  obtain ⟨v, rfl, o1, r1, g1⟩ := hg
  have h1 : w1.heap[w.heap.size]? = some (.cells #[.int .i64 0] 2 (0, 0)) := (g1.block w.heap.size (by simp) (by simp; omega)).trans HFZ.out
  have c1 : w1.cell? ⟨w.heap.size, 0, none⟩ = some (.int .i64 0) := cell_of_row w1 _ 0 _ _ _ h1
  have f1 : w1.frozen? ⟨w.heap.size, 0, none⟩ = false := frozen_of_row w1 _ 0 _ _ h1
  have hG := grown_trans (grown_of_b HB.out (some p)) g1
  have h2 := heap_setCell_same w1 w.heap.size 0 _ _ (.int .i64 0) h1
  have c2 : (w1.setCell ⟨w.heap.size, 0, none⟩ (.int .i64 0)).cell? ⟨w.heap.size, 0, none⟩ = some (.int .i64 0) := by
    rw [cell_of_row _ _ 0 _ _ _ h2]; rfl
  have hbs : Below w.heap.size w1 (w1.setCell ⟨w.heap.size, 0, none⟩ (.int .i64 0)) := (Below.refl _ _).setCell (by exact Nat.le_refl _) _
  have hG2 := grown_low hG hbs
  have hR2 := r1.below hbs hpl
  have hs1 : (w.alloc (.cells #[.int .i64 0] 2)).heap.size = w.heap.size + 1 := by simp
  rw [hs1] at o1
  have hO2 : OwnN 41 (w1.setCell ⟨w.heap.size, 0, none⟩ (.int .i64 0)) (w.heap.size + 1) v t := o1.only (grown_set w1 w.heap.size 0 _) (by
    rcases hv : v.ownBlock with _ | k
    · exact .inl rfl
    · refine .inr (fun e => ?_)
      have := (o1.block k hv).1
      cases e
      omega)
  have HG2 := Lib.hid hG2; have HR2 := Lib.hid hR2; have HO2 := Lib.hid (hO2.more (base' := w.heap.size) (Nat.le_succ _))
  clear hG2 hR2 hO2 hbs hG g1 r1 o1 h2 h1
  go_wp2_with fail
  refine leaves_cons (f := 71) (args := #[.pointer (some ⟨w.heap.size, 0, none⟩)]) (by simp) (by simp [go_sem]) ?_
  refine (catch_idle ⟨w.heap.size, 0, none⟩ _).mono ?_
  rintro e u' w'' ⟨rfl, rfl, rfl⟩
  simp [Leaves, settle, results, Try.results54, go_sem, c2]
  exact ⟨_, rfl, HO2.out, HR2.out, HG2.out⟩
end Go.Proofs.Ytpghbbpidlfelaa
