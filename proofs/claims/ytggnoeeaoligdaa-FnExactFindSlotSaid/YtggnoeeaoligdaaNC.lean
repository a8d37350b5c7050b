/-
  Chapter 10: the program's reader: its steps, which panic where the list does not go on as a table's bytes.
-/
import Derived.Test.YtggnoeeaoligdaaHl
import Derived.Test.YtggnoeeaoligdaaOne
import Derived.Deep.DeepCutAuto
import Derived.Deep.RegionHeld3
namespace Go.Proofs.Ytggnoeeaoligdaa
open Go.RowKit

/-- The same end, but no panic. -/
def nopanic (Q : Exit → Act → World → Prop) : Exit → Act → World → Prop
  | .panic _, _, _ => False
  | e, a, w => Q e a w
theorem of_nopanic {Q : Exit → Act → World → Prop} {e : Exit} {a : Act} {w : World} (h : nopanic Q e a w) : Q e a w := by
  cases e with
  | panic c => exact h.elim
  | _ => exact h
/-- Block p is a reader that still has the list 'rest' before it; that list lies below p. -/
def RdrAt (w : World) (p : Nat) (rest : List Int) : Prop :=
  ∃ ao cap, w.heap[p]? = some (.cells #[.slice ao rest.length cap] 156 (0, 0)) ∧ Rd w ao rest.length rest ∧ rest.length ≤ cap ∧ cap ≤ 9223372036854775807 ∧ (∀ a, ao = some a → a.block < p) ∧ ∀ x ∈ rest, 0 ≤ x ∧ x ≤ 255
/-- A panic by the reader's own text; nothing old is written but the reader. -/
def Bad (w : World) (p : Nat) (e : Ending) (w' : World) : Prop := (∃ u v, e = .panicked [{ v := .iface u v, recovered := false }]) ∧ w.grownBy w' (some p)
section
variable {w w' : World} {p : Nat} {rest : List Int}
theorem RdrAt.lt (h : RdrAt w p rest) : p < w.heap.size := by
  obtain ⟨_, _, h, _⟩ := h
  exact (Array.getElem?_eq_some_iff.1 h).1
theorem RdrAt.grown {g : Option Nat} (h : RdrAt w p rest) (hg : w.grownBy w' g) (hne : ∀ k, g = some k → p < k) : RdrAt w' p rest := by
  have hlt := h.lt
  obtain ⟨ao, cap, h1, h2, h3, h4, h5, h6⟩ := h
  refine ⟨ao, cap, (hg.block p hlt (fun e => by have := hne p e.symm; omega)).trans h1, h2.only hg (fun b off e hgb => ?_), h3, h4, h5, h6⟩
  have e1 : b < p := h5 _ e
  have e2 := hne b hgb
  omega
theorem RdrAt.below {B : Nat} (h : RdrAt w p rest) (hb : Below B w w') (hlt : p < B) : RdrAt w' p rest := by
  obtain ⟨ao, cap, h1, h2, h3, h4, h5, h6⟩ := h
  refine ⟨ao, cap, (hb.block p hlt).trans h1, ⟨h2.len, fun hn => ?_⟩, h3, h4, h5, h6⟩
  obtain ⟨b, off, e, hc⟩ := h2.here hn
  exact ⟨b, off, e, fun i hi => (hb.cell (p := ⟨b, off + i, none⟩) (by have h7 : b < p := h5 _ e; exact Nat.lt_trans h7 hlt)).trans (hc i hi)⟩
theorem Bad.after {w1 : World} {e : Ending} (g : w.grownBy w1 (some p)) (h : Bad w1 p e w') : Bad w p e w' := ⟨h.1, grown_trans g h.2⟩
end
/-- impl's require. -/
theorem require_ok (v : Value) (w : World) : Calls Try.prog 132 #[v, .bool true] w fun e w' => e = .returned (.tuple #[]) ∧ w = w' := by
  go_enter Try.func132, Try.ntmps132
  go_wp2_with fail
  exact bodyPost_end (v := .tuple #[]) (by simp [results, Try.results132, go_sem]) rfl ⟨rfl, rfl⟩
theorem require_bad (v : Value) (w : World) (p : Nat) : Calls Try.prog 132 #[v, .bool false] w (Bad w p) := by
  go_enter Try.func132, Try.ntmps132
  go_wp2_with fail
  exact ⟨rfl, ⟨_, _, rfl⟩, World.grownBy.refl _ _⟩
theorem rdr_set {w : World} {p : Nat} {x : Value} {ao : Option Addr} {cap n : Nat} {rest : List Int} (h : w.heap[p]? = some (.cells #[x] 156 (0, 0))) (hr : Rd w ao n rest) (hn : n ≤ cap) (hc : cap ≤ 9223372036854775807) (hb : ∀ a, ao = some a → a.block < p) (hx : ∀ x ∈ rest, 0 ≤ x ∧ x ≤ 255) :
    RdrAt (w.setCell ⟨p, 0, none⟩ (.slice ao n cap)) p rest ∧ w.grownBy (w.setCell ⟨p, 0, none⟩ (.slice ao n cap)) (some p) := by
  have hl := hr.len
  subst hl
  refine ⟨⟨ao, cap, ?_, hr.only (grown_set w p 0 _) (fun b off e h => ?_), hn, hc, hb, hx⟩, grown_set w p 0 _⟩
  · have := heap_setCell_same w p 0 _ _ (.slice ao rest.length cap) h
    simpa using this
  · have h7 : b < p := hb _ e
    cases h
    omega
theorem byte_drop {xs : List Int} (h : ∀ x ∈ xs, 0 ≤ x ∧ x ≤ 255) (s : Nat) : ∀ x ∈ xs.drop s, 0 ≤ x ∧ x ≤ 255 := fun x hx => h x (List.mem_of_mem_drop hx)
/-- What the reader's take leaves. -/
def Took (w : World) (p s : Nat) (rest : List Int) (e : Ending) (w' : World) : Prop :=
  ∃ ao cap, e = .returned (.slice ao s cap) ∧ Rd w' ao s (rest.take s) ∧ s ≤ cap ∧ cap ≤ 9223372036854775807 ∧ (∀ a, ao = some a → a.block < p) ∧ RdrAt w' p (rest.drop s) ∧ w.grownBy w' (some p)
/-- impl's take, where there is enough. -/
theorem take_ok (p s : Nat) (rest : List Int) (w : World) (h : RdrAt w p rest) (hs : s ≤ rest.length) :
    Calls Try.prog 154 #[.pointer (some ⟨p, 0, none⟩), .int .i64 s] w (Took w p s rest) := by
  obtain ⟨ao, cap, h1, h2, h3, h4, h5, h6⟩ := h
  have hc : w.cell? ⟨p, 0, none⟩ = some (.slice ao rest.length cap) := cell_of_row w p 0 _ _ _ h1
  have hf : w.frozen? ⟨p, 0, none⟩ = false := frozen_of_row w p 0 _ _ h1
  have hsi : (s : Int) ≤ (rest.length : Int) := by omega
  have hsc : (s : Int) ≤ (cap : Int) := by omega
  have hs0 : (0 : Int) ≤ (s : Int) := by omega
  have hreq := fun W => require_ok (.pointer (some ⟨p, 0, none⟩)) W
  have ht : Rd w ao s (rest.take s) := ⟨by rw [List.length_take]; omega, fun h0 => by
    obtain ⟨b, off, e, hcc⟩ := h2.here (by omega)
    exact ⟨b, off, e, fun i hi => by rw [hcc i (by omega)]; simp [List.getD, hi]⟩⟩
  by_cases hcs : cap = s
  · subst hcs
    have hd0 : rest.drop cap = [] := List.drop_of_length_le (by omega)
    obtain ⟨R, G⟩ := rdr_set (ao := ao) (cap := 0) (n := 0) (rest := rest.drop cap) h1 (by rw [hd0]; exact Rd.nil_) (by omega) (by omega) h5 (byte_drop h6 _)
    have T := ht.only G (fun b off e h => by have h7 : b < p := h5 _ e; cases h; omega)
    have R' := Lib.hid R; have G' := Lib.hid G; have T' := Lib.hid T; have H5 := Lib.hid h5
    clear R G T ht h1 h2 h5 h6 hd0
    go_enter Try.func154, Try.ntmps154
    go_wp2_with (go_at_call 132; refine (hreq _).mono ?_; rintro e w1 ⟨rfl, rfl⟩)
    go_ret
    exact ⟨ao, cap, rfl, T'.out, Nat.le_refl _, h4, H5.out, R'.out, G'.out⟩
  · have hsl : Rd w (Option.map (fun x => x.add s) ao) (rest.length - s) (rest.drop s) := by
      have h := h2.slice (a := s) (k := rest.length - s) (by omega)
      rwa [List.take_of_length_le (by rw [List.length_drop]; exact Nat.le_refl _)] at h
    have h5' : ∀ a, Option.map (fun x => x.add s) ao = some a → a.block < p := fun a e => by
      rcases ao with _ | a0
      · cases e
      · simp only [Option.map_some, Option.some.injEq] at e
        subst e
        have h7 := h5 a0 rfl
        have h8 : (a0.add s).block = a0.block := by unfold Addr.add; split <;> rfl
        omega
    obtain ⟨R, G⟩ := rdr_set (ao := Option.map (fun x => x.add s) ao) (cap := cap - s) (n := rest.length - s) (rest := rest.drop s) h1 hsl (by omega) (by omega) h5' (byte_drop h6 _)
    have T := ht.only G (fun b off e h => by have h7 : b < p := h5 _ e; cases h; omega)
    have R' := Lib.hid R; have G' := Lib.hid G; have T' := Lib.hid T; have H5 := Lib.hid h5
    clear R G T ht h1 h2 h5 h6 hsl h5'
    go_enter Try.func154, Try.ntmps154
    go_wp2_with (go_at_call 132; refine (hreq _).mono ?_; rintro e w1 ⟨rfl, rfl⟩)
    go_ret
    exact ⟨ao, cap, rfl, T'.out, by omega, h4, H5.out, R'.out, G'.out⟩
/-- impl's take, where there is not enough. -/
theorem take_bad (p s : Nat) (rest : List Int) (w : World) (h : RdrAt w p rest) (hs : rest.length < s) :
    Calls Try.prog 154 #[.pointer (some ⟨p, 0, none⟩), .int .i64 s] w (Bad w p) := by
  obtain ⟨ao, cap, h1, h2, h3, h4, h5, h6⟩ := h
  have hc : w.cell? ⟨p, 0, none⟩ = some (.slice ao rest.length cap) := cell_of_row w p 0 _ _ _ h1
  have hsi : ¬ (s : Int) ≤ (rest.length : Int) := by omega
  have hsd : decide ((s : Int) ≤ (rest.length : Int)) = false := decide_eq_false hsi
  have hreq := fun W => require_bad (.pointer (some ⟨p, 0, none⟩)) W p
  clear h1 h2 h3 h5 h6
  go_enter Try.func154, Try.ntmps154
  go_wp2_with (go_at_call 132; refine (hreq _).mono ?_; rintro e w1 ⟨⟨u, v, rfl⟩, g1⟩)
  exact ⟨rfl, ⟨_, _, rfl⟩, g1⟩
end Go.Proofs.Ytggnoeeaoligdaa
