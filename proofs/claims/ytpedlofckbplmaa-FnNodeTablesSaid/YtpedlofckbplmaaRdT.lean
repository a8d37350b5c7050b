/-
  Chapter 10: the program's reader: its steps, which panic where the list does not go on as a table's bytes.
  Chapter 10: the program's reader: a number, a bool, a string.
  Chapters 10 to 12: the program's reader of tables: what its body keeps while it reads.
-/
import Derived.Test.YtpedlofckbplmaaHl
import Derived.Test.YtpedlofckbplmaaOne
import Derived.Deep.DeepCutAuto
import Derived.Deep.RegionHeld3
import Derived.Test.YtpedlofckbplmaaNumB
import Derived.Test.YtpedlofckbplmaaOneB
import Derived.Recover
import Derived.Defers
namespace Go.Proofs.Ytpedlofckbplmaa
section
open Go.RowKit

/-- The same end, but no panic. -/
def nopanic (Q : Exit → Act → World → Prop) : Exit → Act → World → Prop
  | .panic _, _, _ => False
  | e, a, w => Q e a w
theorem of_nopanic {Q : Exit → Act → World → Prop} {e : Exit} {a : Act} {w : World} (h : nopanic Q e a w) : Q e a w := by
  cases e with
  | panic c => exact h.elim
  | _ => exact h
/-- Block p is a reader that still has the list 'rest' before it; that list lies below p. -/
def RdrAt (w : World) (p : Nat) (rest : List Int) : Prop :=
  ∃ ao cap, w.heap[p]? = some (.cells #[.slice ao rest.length cap] 110 (0, 0)) ∧ Rd w ao rest.length rest ∧ rest.length ≤ cap ∧ cap ≤ 9223372036854775807 ∧ (∀ a, ao = some a → a.block < p) ∧ ∀ x ∈ rest, 0 ≤ x ∧ x ≤ 255
/-- A panic by the reader's own text; nothing old is written but the reader. -/
def Bad (w : World) (p : Nat) (e : Ending) (w' : World) : Prop := (∃ u v, e = .panicked [{ v := .iface u v, recovered := false }]) ∧ w.grownBy w' (some p)
section
variable {w w' : World} {p : Nat} {rest : List Int}
theorem RdrAt.lt (h : RdrAt w p rest) : p < w.heap.size := by
  obtain ⟨_, _, h, _⟩ := h
  exact (Array.getElem?_eq_some_iff.1 h).1
theorem RdrAt.grown {g : Option Nat} (h : RdrAt w p rest) (hg : w.grownBy w' g) (hne : ∀ k, g = some k → p < k) : RdrAt w' p rest := by
  have hlt := h.lt
  obtain ⟨ao, cap, h1, h2, h3, h4, h5, h6⟩ := h
  refine ⟨ao, cap, (hg.block p hlt (fun e => by have := hne p e.symm; omega)).trans h1, h2.only hg (fun b off e hgb => ?_), h3, h4, h5, h6⟩
  have e1 : b < p := h5 _ e
  have e2 := hne b hgb
  omega
theorem RdrAt.below {B : Nat} (h : RdrAt w p rest) (hb : Below B w w') (hlt : p < B) : RdrAt w' p rest := by
  obtain ⟨ao, cap, h1, h2, h3, h4, h5, h6⟩ := h
  refine ⟨ao, cap, (hb.block p hlt).trans h1, ⟨h2.len, fun hn => ?_⟩, h3, h4, h5, h6⟩
  obtain ⟨b, off, e, hc⟩ := h2.here hn
  exact ⟨b, off, e, fun i hi => (hb.cell (p := ⟨b, off + i, none⟩) (by have h7 : b < p := h5 _ e; exact Nat.lt_trans h7 hlt)).trans (hc i hi)⟩
theorem Bad.after {w1 : World} {e : Ending} (g : w.grownBy w1 (some p)) (h : Bad w1 p e w') : Bad w p e w' := ⟨h.1, grown_trans g h.2⟩
end
/-- impl's require. -/
theorem require_ok (v : Value) (w : World) : Calls Try.prog 97 #[v, .bool true] w fun e w' => e = .returned (.tuple #[]) ∧ w = w' := by
  go_enter Try.func97, Try.ntmps97
  go_wp2_with fail
  exact bodyPost_end (v := .tuple #[]) (by simp [results, Try.results97, go_sem]) rfl ⟨rfl, rfl⟩
theorem require_bad (v : Value) (w : World) (p : Nat) : Calls Try.prog 97 #[v, .bool false] w (Bad w p) := by
  go_enter Try.func97, Try.ntmps97
  go_wp2_with fail
  exact ⟨rfl, ⟨_, _, rfl⟩, World.grownBy.refl _ _⟩
theorem rdr_set {w : World} {p : Nat} {x : Value} {ao : Option Addr} {cap n : Nat} {rest : List Int} (h : w.heap[p]? = some (.cells #[x] 110 (0, 0))) (hr : Rd w ao n rest) (hn : n ≤ cap) (hc : cap ≤ 9223372036854775807) (hb : ∀ a, ao = some a → a.block < p) (hx : ∀ x ∈ rest, 0 ≤ x ∧ x ≤ 255) :
    RdrAt (w.setCell ⟨p, 0, none⟩ (.slice ao n cap)) p rest ∧ w.grownBy (w.setCell ⟨p, 0, none⟩ (.slice ao n cap)) (some p) := by
  have hl := hr.len
  subst hl
  refine ⟨⟨ao, cap, ?_, hr.only (grown_set w p 0 _) (fun b off e h => ?_), hn, hc, hb, hx⟩, grown_set w p 0 _⟩
  · have := heap_setCell_same w p 0 _ _ (.slice ao rest.length cap) h
    simpa using this
  · have h7 : b < p := hb _ e
    cases h
    omega
theorem byte_drop {xs : List Int} (h : ∀ x ∈ xs, 0 ≤ x ∧ x ≤ 255) (s : Nat) : ∀ x ∈ xs.drop s, 0 ≤ x ∧ x ≤ 255 := fun x hx => h x (List.mem_of_mem_drop hx)
/-- What the reader's take leaves. -/
def Took (w : World) (p s : Nat) (rest : List Int) (e : Ending) (w' : World) : Prop :=
  ∃ ao cap, e = .returned (.slice ao s cap) ∧ Rd w' ao s (rest.take s) ∧ s ≤ cap ∧ cap ≤ 9223372036854775807 ∧ (∀ a, ao = some a → a.block < p) ∧ RdrAt w' p (rest.drop s) ∧ w.grownBy w' (some p)
/-- impl's take, where there is enough. -/
theorem take_ok (p s : Nat) (rest : List Int) (w : World) (h : RdrAt w p rest) (hs : s ≤ rest.length) :
    Calls Try.prog 110 #[.pointer (some ⟨p, 0, none⟩), .int .i64 s] w (Took w p s rest) := by
  obtain ⟨ao, cap, h1, h2, h3, h4, h5, h6⟩ := h
  have hc : w.cell? ⟨p, 0, none⟩ = some (.slice ao rest.length cap) := cell_of_row w p 0 _ _ _ h1
  have hf : w.frozen? ⟨p, 0, none⟩ = false := frozen_of_row w p 0 _ _ h1
  have hsi : (s : Int) ≤ (rest.length : Int) := by omega
  have hsc : (s : Int) ≤ (cap : Int) := by omega
  have hs0 : (0 : Int) ≤ (s : Int) := by omega
  have hreq := fun W => require_ok (.pointer (some ⟨p, 0, none⟩)) W
  have ht : Rd w ao s (rest.take s) := ⟨by rw [List.length_take]; omega, fun h0 => by
    obtain ⟨b, off, e, hcc⟩ := h2.here (by omega)
    exact ⟨b, off, e, fun i hi => by rw [hcc i (by omega)]; simp [List.getD, hi]⟩⟩
  by_cases hcs : cap = s
  · subst hcs
    have hd0 : rest.drop cap = [] := List.drop_of_length_le (by omega)
    obtain ⟨R, G⟩ := rdr_set (ao := ao) (cap := 0) (n := 0) (rest := rest.drop cap) h1 (by rw [hd0]; exact Rd.nil_) (by omega) (by omega) h5 (byte_drop h6 _)
    have T := ht.only G (fun b off e h => by have h7 : b < p := h5 _ e; cases h; omega)
    have R' := Lib.hid R; have G' := Lib.hid G; have T' := Lib.hid T; have H5 := Lib.hid h5
    clear R G T ht h1 h2 h5 h6 hd0
    go_enter Try.func110, Try.ntmps110
    go_wp2_with (go_at_call 97; refine (hreq _).mono ?_; rintro e w1 ⟨rfl, rfl⟩)
    go_ret
    exact ⟨ao, cap, rfl, T'.out, Nat.le_refl _, h4, H5.out, R'.out, G'.out⟩
  · have hsl : Rd w (Option.map (fun x => x.add s) ao) (rest.length - s) (rest.drop s) := by
      have h := h2.slice (a := s) (k := rest.length - s) (by omega)
      rwa [List.take_of_length_le (by rw [List.length_drop]; exact Nat.le_refl _)] at h
    have h5' : ∀ a, Option.map (fun x => x.add s) ao = some a → a.block < p := fun a e => by
      rcases ao with _ | a0
      · cases e
      · simp only [Option.map_some, Option.some.injEq] at e
        subst e
        have h7 := h5 a0 rfl
        have h8 : (a0.add s).block = a0.block := by unfold Addr.add; split <;> rfl
        omega
    obtain ⟨R, G⟩ := rdr_set (ao := Option.map (fun x => x.add s) ao) (cap := cap - s) (n := rest.length - s) (rest := rest.drop s) h1 hsl (by omega) (by omega) h5' (byte_drop h6 _)
    have T := ht.only G (fun b off e h => by have h7 : b < p := h5 _ e; cases h; omega)
    have R' := Lib.hid R; have G' := Lib.hid G; have T' := Lib.hid T; have H5 := Lib.hid h5
    clear R G T ht h1 h2 h5 h6 hsl h5'
    go_enter Try.func110, Try.ntmps110
    go_wp2_with (go_at_call 97; refine (hreq _).mono ?_; rintro e w1 ⟨rfl, rfl⟩)
    go_ret
    exact ⟨ao, cap, rfl, T'.out, by omega, h4, H5.out, R'.out, G'.out⟩
/-- impl's take, where there is not enough. -/
theorem take_bad (p s : Nat) (rest : List Int) (w : World) (h : RdrAt w p rest) (hs : rest.length < s) :
    Calls Try.prog 110 #[.pointer (some ⟨p, 0, none⟩), .int .i64 s] w (Bad w p) := by
  obtain ⟨ao, cap, h1, h2, h3, h4, h5, h6⟩ := h
  have hc : w.cell? ⟨p, 0, none⟩ = some (.slice ao rest.length cap) := cell_of_row w p 0 _ _ _ h1
  have hsi : ¬ (s : Int) ≤ (rest.length : Int) := by omega
  have hsd : decide ((s : Int) ≤ (rest.length : Int)) = false := decide_eq_false hsi
  have hreq := fun W => require_bad (.pointer (some ⟨p, 0, none⟩)) W p
  clear h1 h2 h3 h5 h6
  go_enter Try.func110, Try.ntmps110
  go_wp2_with (go_at_call 97; refine (hreq _).mono ?_; rintro e w1 ⟨⟨u, v, rfl⟩, g1⟩)
  exact ⟨rfl, ⟨_, _, rfl⟩, g1⟩
end

section
open Go.RowKit

/-- What the reader's number leaves. -/
def GotI (w : World) (p : Nat) (v : Int) (rest' : List Int) (e : Ending) (w' : World) : Prop := e = .returned (.int .i64 v) ∧ RdrAt w' p rest' ∧ w.grownBy w' (some p)
theorem RdrAt.bytes {w : World} {p : Nat} {rest : List Int} (h : RdrAt w p rest) : ∀ x ∈ rest, 0 ≤ x ∧ x ≤ 255 := by
  obtain ⟨_, _, _, _, _, _, _, h⟩ := h
  exact h
/-- impl's number. -/
theorem number_ok (p s : Nat) (rest : List Int) (w : World) (h : RdrAt w p rest) (hs : s ≤ rest.length) (h2 : s ≤ 2) :
    Calls Try.prog 96 #[.pointer (some ⟨p, 0, none⟩), .int .i64 s] w (GotI w p (byteNum (rest.take s)) (rest.drop s)) := by
  have hcall := take_ok p s rest w h hs
  have hby := byte_take h.bytes s
  have HC := Lib.hid hcall; clear hcall h hs
  obtain ⟨xs, hxs⟩ : ∃ xs, xs = rest.take s := ⟨_, rfl⟩
  rw [← hxs] at hby ⊢
  have HX := Lib.hid hxs; have HBY := Lib.hid hby; clear hxs hby
  go_enter Try.func96, Try.ntmps96
  go_wp2_with fail
  refine HC.out.mono ?_
  rintro e w1 ⟨ao, cap, rfl, hr, hsc, hcm, -, hR, hG⟩
  rw [← HX.out] at hr
  have HR := Lib.hid hr; have HRD := Lib.hid hR; have HG := Lib.hid hG; clear hr hR hG
  go_wp2_with fail
  refine (numberOfBytes_any _ _ _ _ _ HR.out (by omega) HBY.out).mono ?_
  rintro e w2 ⟨rfl, rfl⟩
  go_wp2
  go_ret
  exact ⟨rfl, HRD.out, HG.out⟩
theorem number_bad (p s : Nat) (rest : List Int) (w : World) (h : RdrAt w p rest) (hs : rest.length < s) :
    Calls Try.prog 96 #[.pointer (some ⟨p, 0, none⟩), .int .i64 s] w (Bad w p) := by
  have HC := Lib.hid (take_bad p s rest w h hs); clear h hs
  go_enter Try.func96, Try.ntmps96
  go_wp2_with fail
  refine HC.out.mono ?_
  rintro e w1 ⟨⟨u, v, rfl⟩, g1⟩
  go_wp2_with fail
  exact ⟨rfl, ⟨_, _, rfl⟩, g1⟩
theorem byteNum_one {xs : List Int} (h : 1 ≤ xs.length) : byteNum (xs.take 1) = xs.getD 0 0 := by
  match xs, h with
  | a :: r, _ => simp [byteNum]
theorem byteNum_two {xs : List Int} (h : 2 ≤ xs.length) : byteNum (xs.take 2) = xs.getD 0 0 * 256 + xs.getD 1 0 := by
  match xs, h with
  | a :: b :: r, _ => simp [byteNum]
end

section
open Go.RowKit

/-- While a table is read: block w.heap.size holds the code, the block behind it is the reader with r before it. -/
structure RtSt (w wr : World) (r : List Int) : Prop where
  rd : RdrAt wr (w.heap.size + 1) r
  code : wr.heap[w.heap.size]? = some (.cells #[.int .i64 0] 2 (0, 0))
  below : Below w.heap.size w wr
section
variable {w wr wr' : World} {r r' : List Int}
theorem RtSt.size (h : RtSt w wr r) : w.heap.size + 2 ≤ wr.heap.size := h.rd.lt
theorem RtSt.call (h : RtSt w wr r) (hr : RdrAt wr' (w.heap.size + 1) r') (g : wr.grownBy wr' (some (w.heap.size + 1))) : RtSt w wr' r' :=
  ⟨hr, (g.block w.heap.size (by have := h.size; omega) (by simp)).trans h.code, h.below.grown g h.below.size (fun k hk => by cases hk; omega)⟩
theorem RtSt.low {B : Nat} (h : RtSt w wr r) (hb : Below B wr wr') (hB : w.heap.size + 2 ≤ B) : RtSt w wr' r :=
  ⟨h.rd.below hb (by omega), (hb.block w.heap.size (by omega)).trans h.code, h.below.trans (hb.mono (by omega))⟩
theorem RtSt.next (h : RtSt w wr r) (hb : Below wr.heap.size wr wr') : RtSt w wr' r := h.low hb h.size
theorem RtSt.bad {e : Ending} (h : RtSt w wr r) (hb : Bad wr (w.heap.size + 1) e wr') : wr'.cell? ⟨w.heap.size, 0, none⟩ = some (.int .i64 0) ∧ wr'.frozen? ⟨w.heap.size, 0, none⟩ = false ∧ Below w.heap.size w (wr'.setCell ⟨w.heap.size, 0, none⟩ (.int .i64 6)) ∧ (wr'.setCell ⟨w.heap.size, 0, none⟩ (.int .i64 6)).cell? ⟨w.heap.size, 0, none⟩ = some (.int .i64 6) := by
  have h1 := (hb.2.block w.heap.size (by have := h.size; omega) (by simp)).trans h.code
  have h2 := heap_setCell_same wr' w.heap.size 0 _ _ (.int .i64 6) h1
  exact ⟨cell_of_row wr' _ 0 _ _ _ h1, frozen_of_row wr' _ 0 _ _ h1, (h.below.grown hb.2 h.below.size (fun k hk => by cases hk; omega)).trans ((Below.refl w.heap.size wr').setCell (p := ⟨w.heap.size, 0, none⟩) (by exact Nat.le_refl _) _), by rw [cell_of_row _ _ 0 _ _ _ h2]; rfl⟩
end
/-- At the start: the code's cell, then the reader. -/
theorem RtSt.start {w : World} {ao : Option Addr} {cap : Nat} {xs : List Int} (hr : Rd w ao xs.length xs) (hcap : xs.length ≤ cap) (hcap2 : cap ≤ 9223372036854775807) (hblk : ∀ a, ao = some a → a.block < w.heap.size) (hin : ∀ x ∈ xs, 0 ≤ x ∧ x ≤ 255) :
    RtSt w ((w.alloc (.cells #[.int .i64 0] 2)).alloc (.cells #[.slice ao xs.length cap] 110)) xs := by
  obtain ⟨wa, hwa⟩ : ∃ wa, wa = w.alloc (.cells #[.int .i64 0] 2) := ⟨_, rfl⟩
  have hb : Below w.heap.size w wa := by rw [hwa]; exact (Below.refl _ _).alloc (Nat.le_refl _) _
  have hsa : wa.heap.size = w.heap.size + 1 := by rw [hwa]; simp
  have hba : wa.heap[w.heap.size]? = some (.cells #[.int .i64 0] 2 (0, 0)) := by rw [hwa]; exact heap_alloc_new w _
  have hb2 : Below wa.heap.size wa (wa.alloc (.cells #[.slice ao xs.length cap] 110)) := (Below.refl _ _).alloc (Nat.le_refl _) _
  rw [← hwa]
  exact ⟨⟨ao, cap, by rw [← hsa]; exact heap_alloc_new wa _, (hr.below hb).below hb2, hcap, hcap2, fun a e => by have := hblk a e; omega, hin⟩, (hb2.block w.heap.size (by omega)).trans hba, below_two hb hb2⟩
/-- The end of a table's reading: the code is written once more. -/
theorem RtSt.done {w wr : World} {r : List Int} (h : RtSt w wr r) : ∃ ao cap, wr.cell? ⟨w.heap.size + 1, 0, none⟩ = some (.slice ao r.length cap) ∧ wr.cell? ⟨w.heap.size, 0, none⟩ = some (.int .i64 0) ∧ wr.frozen? ⟨w.heap.size, 0, none⟩ = false ∧
    (wr.setCell ⟨w.heap.size, 0, none⟩ (.int .i64 0)).cell? ⟨w.heap.size + 1, 0, none⟩ = some (.slice ao r.length cap) ∧ (wr.setCell ⟨w.heap.size, 0, none⟩ (.int .i64 0)).cell? ⟨w.heap.size, 0, none⟩ = some (.int .i64 0) ∧ (wr.setCell ⟨w.heap.size, 0, none⟩ (.int .i64 0)).frozen? ⟨w.heap.size, 0, none⟩ = false ∧
    Below w.heap.size w (wr.setCell ⟨w.heap.size, 0, none⟩ (.int .i64 0)) := by
  obtain ⟨ao2, cap2, hh, -⟩ := h.rd
  have h1 := h.code
  have h2 := heap_setCell_same wr w.heap.size 0 _ _ (.int .i64 0) h1
  exact ⟨ao2, cap2, cell_of_row wr _ 0 _ _ _ hh, cell_of_row wr _ 0 _ _ _ h1, frozen_of_row wr _ 0 _ _ h1, cell_of_row _ _ 0 _ _ _ ((heap_setCell_other wr _ _ _ (by simp)).trans hh), by rw [cell_of_row _ _ 0 _ _ _ h2]; rfl, frozen_of_row _ _ 0 _ _ h2, h.below.trans ((Below.refl w.heap.size wr).setCell (p := ⟨w.heap.size, 0, none⟩) (by exact Nat.le_refl _) _)⟩
theorem bytes_at_rt {xs : List Int} (h : ∀ x ∈ xs, 0 ≤ x ∧ x ≤ 255) (i : Nat) : 0 ≤ xs.getD i 0 ∧ xs.getD i 0 ≤ 255 := by
  by_cases hi : i < xs.length
  · exact h _ (getD_mem' hi)
  · simp [List.getD, List.getElem?_eq_none (Nat.not_lt.1 hi)]
end
end Go.Proofs.Ytpedlofckbplmaa
