/-
  The plain functions of chapter 8, and what its laws say of them. No program is named here.
  Chapter 8: descriptors in memory; a descriptor copied and compared by the laws.
  Chapter 8: the cells of a frame, valid descriptors, the pause, on both sides.
-/
import Derived.Test.YtbbodgeoenjdkaaFr1
import Derived.Test.YtbbodgeoenjdkaaSixA
import Derived.Test.YtbbodgeoenjdkaaFourA
import Derived.Test.YtbbodgeoenjdkaaFiv
import Derived.Test.YtbbodgeoenjdkaaOneB
import Derived.BigQuiet
namespace Go.Proofs.Ytbbodgeoenjdkaa
section

/-- A descriptor: its node, its kind, its size, its duration, whether it may change the mode. -/
structure Ds where
  node : Int
  kind : Int
  size : Int
  dur : Int
  chg : Bool
def Ds.zero : Ds := ⟨0, 0, 0, 0, false⟩
/-- What a frame of the kind and size takes: the cells, or the error. -/
def cellsOf8 (a n : Int) : Int := 11 + 10 * ((bodySize a n).1 + 3)
def cellsNeeded (a n : Int) : Int × Int := if (bodySize a n).2 = 0 then (cellsOf8 a n, 0) else (0, (bodySize a n).2)
def isDesc (d : Ds) : Bool := inRange 0 31 d.node && (kindOk d.kind && (sizeOk d.kind d.size && (!(decide (d.kind = 3) && d.chg) && inRange (cellsOf8 d.kind d.size + 20) 1000 d.dur)))
def fits (d : Ds) (f : Fr) : Bool := isDesc d && (isFrame f && (decide (f.kind = d.kind) && (decide ((f.data.length : Int) = d.size) && (d.chg || decide (f.req = 0)))))
def pauseOf (d : Ds) : Int × Int := if isDesc d = true then (d.dur - cellsOf8 d.kind d.size, 0) else (0, 1)
def flag8 (c : Bool) : Int := if c = true then 1 else 0
def descBytes (d : Ds) : List Int := [d.node, d.kind * 64 + d.size, d.dur / 256, d.dur % 256, flag8 d.chg]
def descToBytes (d : Ds) : List Int × Int := if isDesc d = true then (descBytes d, 0) else ([], 1)
/-- What five numbers say. -/
def descRead (x0 x1 x2 x3 x4 : Int) : Ds := ⟨x0, x1 / 64, x1 % 64, 256 * x2 + x3, decide (x4 = 1)⟩
/-- The same, as the program reads any five numbers. -/
def descRaw (x0 x1 x2 x3 x4 : Int) : Ds := ⟨x0, x1 / 64, x1 % 64, IntKind.i64.wrap (IntKind.i64.wrap (x2 * 256) + x3), decide (x4 = 1)⟩
def descFrom (xs : List Int) : Ds × Int :=
  match xs with
  | [x0, x1, x2, x3, x4] => if isDesc (descRaw x0 x1 x2 x3 x4) = true ∧ descBytes (descRaw x0 x1 x2 x3 x4) = [x0, x1, x2, x3, x4] then (descRaw x0 x1 x2 x3 x4, 0) else (Ds.zero, 6)
  | _ => (Ds.zero, 6)
def zeros8 (n : Int) : List Int := List.replicate n.toNat 0
/-- The empty frame of a descriptor, before it is asked whether it is valid. -/
def emptyOf (d : Ds) (t m r s k : Int) : Fr := if hasState d.kind = true then ⟨d.kind, 0, t, m, r, s, k, zeros8 d.size⟩ else ⟨d.kind, 0, 0, 0, 0, 0, 0, zeros8 d.size⟩
def emptyFrame (d : Ds) (t m r s k : Int) : Fr × Int :=
  if isDesc d = true then (if isFrame (emptyOf d t m r s k) = true then (emptyOf d t m r s k, 0) else (Fr.zero, 2)) else (Fr.zero, 1)

theorem desc_parts {d : Ds} (h : isDesc d = true) : (0 ≤ d.node ∧ d.node ≤ 31) ∧ kindOk d.kind = true ∧ sizeOk d.kind d.size = true ∧ (d.kind = 3 → d.chg = false) ∧ cellsOf8 d.kind d.size + 20 ≤ d.dur ∧ d.dur ≤ 1000 := by
  unfold isDesc at h
  simp only [Bool.and_eq_true, Bool.not_eq_true', Bool.and_eq_false_iff] at h
  obtain ⟨h1, h2, h3, h4, h5⟩ := h
  refine ⟨inRange_iff.1 h1, h2, h3, fun e => ?_, (inRange_iff.1 h5).1, (inRange_iff.1 h5).2⟩
  rcases h4 with h4 | h4
  · exact absurd e (of_decide_eq_false h4)
  · exact h4
theorem bodySize_ok {a n : Int} (h1 : kindOk a = true) (h2 : sizeOk a n = true) : (bodySize a n).2 = 0 ∧ 1 ≤ (bodySize a n).1 ∧ (bodySize a n).1 ≤ 42 := by
  have := sizeOk_le h2
  unfold bodySize
  rw [if_neg (by simp [h1]), if_neg (by simp [h2])]
  refine ⟨rfl, ?_, ?_⟩ <;> split <;> split <;> simp <;> omega
theorem bodySize_in8 (a n : Int) : 0 ≤ (bodySize a n).1 ∧ (bodySize a n).1 ≤ 42 ∧ 0 ≤ (bodySize a n).2 ∧ (bodySize a n).2 ≤ 2 := by
  unfold bodySize
  split
  · simp
  · split
    · simp
    · rename_i h2
      have := sizeOk_le (a := a) (n := n) (by simpa using h2)
      split <;> split <;> simp <;> omega
theorem bodySize_err {a n : Int} : (bodySize a n).2 = 0 ↔ (kindOk a = true ∧ sizeOk a n = true) := by
  unfold bodySize
  split
  · rename_i h; simp [h]
  · rename_i h
    split
    · rename_i h2; simp [h2]
    · rename_i h2; simp at h h2; simp [h, h2]
theorem cells_in (a n : Int) : 41 ≤ cellsOf8 a n ∧ cellsOf8 a n ≤ 461 := by
  have := bodySize_in8 a n
  unfold cellsOf8
  omega
theorem cells_ok {d : Ds} (h : isDesc d = true) : cellsNeeded d.kind d.size = (cellsOf8 d.kind d.size, 0) := by
  obtain ⟨-, h1, h2, -⟩ := desc_parts h
  unfold cellsNeeded
  rw [if_pos (bodySize_ok h1 h2).1]
theorem cells_fst {a n : Int} (h : (cellsNeeded a n).2 = 0) : cellsNeeded a n = (cellsOf8 a n, 0) := by
  unfold cellsNeeded at h ⊢
  split
  · rfl
  · rename_i hc; rw [if_neg hc] at h; exact absurd h hc
/-- The program's order of the same questions. -/
theorem isDesc_eq (d : Ds) : isDesc d = (decide ((cellsNeeded d.kind d.size).2 = 0) && (isNode d.node && ((!decide (d.kind = 3) || !d.chg) && (decide (cellsOf8 d.kind d.size + 20 ≤ d.dur) && decide (d.dur ≤ 1000))))) := by
  have e : (cellsNeeded d.kind d.size).2 = (bodySize d.kind d.size).2 := by unfold cellsNeeded; split <;> simp_all
  rw [e, show isNode d.node = inRange 0 31 d.node from rfl, Bool.eq_iff_iff]
  unfold isDesc
  simp only [Bool.and_eq_true, Bool.or_eq_true, Bool.not_eq_true', Bool.and_eq_false_iff, decide_eq_true_eq, decide_eq_false_iff_not, bodySize_err, inRange_iff]
  constructor
  · rintro ⟨h1, h2, h3, h4, h5, h6⟩; exact ⟨⟨h2, h3⟩, h1, h4, h5, h6⟩
  · rintro ⟨⟨h2, h3⟩, h1, h4, h5, h6⟩; exact ⟨h1, h2, h3, h4, h5, h6⟩
theorem descBytes_len (d : Ds) : (descBytes d).length = 5 := rfl
theorem descToBytes_len (d : Ds) : (descToBytes d).1.length ≤ 5 := by
  unfold descToBytes
  split
  · exact Nat.le_refl _
  · exact Nat.zero_le _
theorem descBytes_le {d : Ds} (h : isDesc d = true) : ∀ x ∈ descBytes d, 0 ≤ x ∧ x ≤ 255 := by
  obtain ⟨h1, h2, h3, h4, h5, h6⟩ := desc_parts h
  have hk := kindOk_four h2
  have hs := sizeOk_le h3
  have hc := cells_in d.kind d.size
  intro x hx
  unfold descBytes at hx
  simp only [List.mem_cons, List.not_mem_nil, or_false] at hx
  rcases hx with rfl | rfl | rfl | rfl | rfl
  · omega
  · omega
  · omega
  · omega
  · unfold flag8; split <;> omega
theorem descBytes_bytes {d : Ds} (h : isDesc d = true) : isBytes (descBytes d) = true := isBytes_iff.2 ⟨by rw [descBytes_len]; omega, descBytes_le h⟩
theorem flag_back (c : Bool) : decide (flag8 c = 1) = c := by cases c <;> rfl
theorem read_desc {d : Ds} (h : isDesc d = true) : descRaw d.node (d.kind * 64 + d.size) (d.dur / 256) (d.dur % 256) (flag8 d.chg) = d := by
  obtain ⟨h1, h2, h3, h4, h5, h6⟩ := desc_parts h
  have hk := kindOk_four h2
  have hs := sizeOk_le h3
  have hc := cells_in d.kind d.size
  obtain ⟨n, a, z, u, c⟩ := d
  simp only at *
  unfold descRaw
  rw [flag_back, IntKind.wrap_i64, IntKind.wrap_i64]
  have e1 : (a * 64 + z) / 64 = a := by omega
  have e2 : (a * 64 + z) % 64 = z := by omega
  rw [e1, e2]
  congr 1
  omega
theorem desc_round {d : Ds} (h : isDesc d = true) : descFrom (descBytes d) = (d, 0) := by
  have hr := read_desc h
  unfold descFrom descBytes
  simp only
  rw [hr]
  simp [h]
/-- Five bytes are read without a turn of the numbers. -/
theorem raw_read {x0 x1 x2 x3 x4 : Int} (h2 : 0 ≤ x2 ∧ x2 ≤ 255) (h3 : 0 ≤ x3 ∧ x3 ≤ 255) : descRaw x0 x1 x2 x3 x4 = descRead x0 x1 x2 x3 x4 := by
  unfold descRaw descRead
  rw [IntKind.wrap_i64, IntKind.wrap_i64]
  congr 1
  omega
/-- The model's way: bytes first. -/
theorem descFrom_bytes {x0 x1 x2 x3 x4 : Int} (hb : isBytes [x0, x1, x2, x3, x4] = true) : descFrom [x0, x1, x2, x3, x4] = if isDesc (descRead x0 x1 x2 x3 x4) = true ∧ descBytes (descRead x0 x1 x2 x3 x4) = [x0, x1, x2, x3, x4] then (descRead x0 x1 x2 x3 x4, 0) else (Ds.zero, 6) := by
  have h := (isBytes_iff.1 hb).2
  unfold descFrom
  simp only
  rw [raw_read (h x2 (by simp)) (h x3 (by simp))]
theorem descFrom_nobytes {xs : List Int} (hb : isBytes xs = false) : descFrom xs = (Ds.zero, 6) := by
  unfold descFrom
  split
  · rw [if_neg]
    rintro ⟨h1, h2⟩
    have := descBytes_bytes h1
    rw [h2, hb] at this
    cases this
  · rfl
theorem descFrom_len {xs : List Int} (h : xs.length ≠ 5) : descFrom xs = (Ds.zero, 6) := by
  unfold descFrom
  split
  · exact absurd rfl h
  · rfl
theorem fits_parts {d : Ds} {f : Fr} (h : fits d f = true) : isFrame f = true ∧ f.kind = d.kind ∧ (f.data.length : Int) = d.size := by
  unfold fits at h
  simp only [Bool.and_eq_true, decide_eq_true_eq] at h
  exact ⟨h.2.1, h.2.2.1, h.2.2.2.1⟩
theorem zeros_len {n : Int} (h : 0 ≤ n) : ((zeros8 n).length : Int) = n := by unfold zeros8; rw [List.length_replicate]; omega
theorem empty_fits {d : Ds} {t m r s k : Int} (h : (emptyFrame d t m r s k).2 = 0) : fits d (emptyFrame d t m r s k).1 = true := by
  unfold emptyFrame at h ⊢
  split at h
  · rename_i hd
    split at h
    · rename_i hf
      rw [if_pos hd, if_pos hf]
      have hs := sizeOk_le (desc_parts hd).2.2.1
      have hz := zeros_len hs.1
      unfold fits
      rw [hd, hf]
      unfold emptyOf
      split <;> simp [hz]
    · simp at h
  · simp at h
theorem pause_law {d : Ds} (h : isDesc d = true) : (pauseOf d).2 = 0 ∧ 20 ≤ (pauseOf d).1 ∧ (pauseOf d).1 + (cellsNeeded d.kind d.size).1 = d.dur := by
  obtain ⟨-, -, -, -, h5, -⟩ := desc_parts h
  unfold pauseOf
  rw [if_pos h, cells_ok h]
  exact ⟨rfl, by simp only; omega, by simp only; omega⟩
end

section
open Go.RowKit

/-- Block b holds a descriptor. -/
def DescAt (T : Nat) (w : World) (b : Nat) (n a z u : Int) (c : Bool) : Prop := w.heap[b]? = some (.cells #[.int .i64 n, .int .i64 a, .int .i64 z, .int .i64 u, .bool c] T (0, 0))
/-- A descriptor handed back, all old memory as it was. -/
def GivesDesc (w : World) (n a z u : Int) (c : Bool) (e : Ending) (w' : World) : Prop := e = .returned (.agg #[.int .i64 n, .int .i64 a, .int .i64 z, .int .i64 u, .bool c]) ∧ Below w.heap.size w w'
section
variable {T b : Nat} {w w' : World} {n a z u : Int} {c : Bool}
theorem DescAt.c0 (h : DescAt T w b n a z u c) : w.cell? ⟨b, 0, none⟩ = some (.int .i64 n) := cell_of_row w b 0 _ _ (0, 0) h
theorem DescAt.c1 (h : DescAt T w b n a z u c) : w.cell? ⟨b, 1, none⟩ = some (.int .i64 a) := cell_of_row w b 1 _ _ (0, 0) h
theorem DescAt.c2 (h : DescAt T w b n a z u c) : w.cell? ⟨b, 2, none⟩ = some (.int .i64 z) := cell_of_row w b 2 _ _ (0, 0) h
theorem DescAt.c3 (h : DescAt T w b n a z u c) : w.cell? ⟨b, 3, none⟩ = some (.int .i64 u) := cell_of_row w b 3 _ _ (0, 0) h
theorem DescAt.c4 (h : DescAt T w b n a z u c) : w.cell? ⟨b, 4, none⟩ = some (.bool c) := cell_of_row w b 4 _ _ (0, 0) h
theorem DescAt.f (h : DescAt T w b n a z u c) (i : Nat) : w.frozen? ⟨b, i, none⟩ = false := frozen_of_row w b i _ _ h
theorem DescAt.lt (h : DescAt T w b n a z u c) : b < w.heap.size := (Array.getElem?_eq_some_iff.1 h).1
theorem DescAt.grown {g : Option Nat} (h : DescAt T w b n a z u c) (hg : w.grownBy w' g) (hne : some b ≠ g) : DescAt T w' b n a z u c := (hg.block b h.lt hne).trans h
theorem DescAt.below {B : Nat} (h : DescAt T w b n a z u c) (hb : Below B w w') (hlt : b < B) : DescAt T w' b n a z u c := (hb.block b hlt).trans h
theorem DescAt.new (w : World) : DescAt T (w.alloc (.cells #[.int .i64 n, .int .i64 a, .int .i64 z, .int .i64 u, .bool c] T)) w.heap.size n a z u c := heap_alloc_new w _
theorem DescAt.other (h : DescAt T w b n a z u c) {q i : Nat} {v : Value} (hne : b ≠ q) : DescAt T (w.setCell ⟨q, i, none⟩ v) b n a z u c := (heap_setCell_other _ _ _ _ hne).trans h
theorem DescAt.set0 (h : DescAt T w b n a z u c) (y : Int) : DescAt T (w.setCell ⟨b, 0, none⟩ (.int .i64 y)) b y a z u c := by
  have := heap_setCell_same w b 0 _ _ (.int .i64 y) h
  simpa [DescAt] using this
theorem DescAt.set1 (h : DescAt T w b n a z u c) (y : Int) : DescAt T (w.setCell ⟨b, 1, none⟩ (.int .i64 y)) b n y z u c := by
  have := heap_setCell_same w b 1 _ _ (.int .i64 y) h
  simpa [DescAt] using this
theorem DescAt.set2 (h : DescAt T w b n a z u c) (y : Int) : DescAt T (w.setCell ⟨b, 2, none⟩ (.int .i64 y)) b n a y u c := by
  have := heap_setCell_same w b 2 _ _ (.int .i64 y) h
  simpa [DescAt] using this
theorem DescAt.set3 (h : DescAt T w b n a z u c) (y : Int) : DescAt T (w.setCell ⟨b, 3, none⟩ (.int .i64 y)) b n a z y c := by
  have := heap_setCell_same w b 3 _ _ (.int .i64 y) h
  simpa [DescAt] using this
theorem DescAt.set4 (h : DescAt T w b n a z u c) (y : Bool) : DescAt T (w.setCell ⟨b, 4, none⟩ (.bool y)) b n a z u y := by
  have := heap_setCell_same w b 4 _ _ (.bool y) h
  simpa [DescAt] using this
theorem desc_cells (h : DescAt T w b n a z u c) : w.cell? ⟨b, 0, none⟩ = some (.int .i64 n) ∧ w.cell? ⟨b, 1, none⟩ = some (.int .i64 a) ∧ w.cell? ⟨b, 2, none⟩ = some (.int .i64 z) ∧ w.cell? ⟨b, 3, none⟩ = some (.int .i64 u) ∧ w.cell? ⟨b, 4, none⟩ = some (.bool c) := ⟨h.c0, h.c1, h.c2, h.c3, h.c4⟩
end
/-- The struct that a call lays first reads as it was behind whatever leaves old memory alone. -/
theorem desc_new {T : Nat} {w w' : World} {n a z u : Int} {c : Bool} (h : Below (w.alloc (.cells #[.int .i64 n, .int .i64 a, .int .i64 z, .int .i64 u, .bool c] T)).heap.size (w.alloc (.cells #[.int .i64 n, .int .i64 a, .int .i64 z, .int .i64 u, .bool c] T)) w') : DescAt T w' w.heap.size n a z u c :=
  (DescAt.new w).below h (by simp)
end

section
open Go.RowKit

def sealSz (a n : Int) : Int × Int := if (bodySize a n).2 = 0 then ((bodySize a n).1 + 3, 0) else (0, (bodySize a n).2)
/-! ### the model -/
theorem id_no {n a z u : Int} {c : Bool} (h : isNode n = false ∨ kindOk a = false ∨ sizeOk a z = false ∨ (a = 3 ∧ c = true)) : isDesc ⟨n, a, z, u, c⟩ = false := by
  unfold isDesc
  simp only
  rcases h with h | h | h | ⟨rfl, rfl⟩
  · rw [show inRange 0 31 n = false from h, Bool.false_and]
  · rw [h, Bool.false_and, Bool.and_false]
  · rw [h, Bool.false_and, Bool.and_false, Bool.and_false]
  · simp
theorem id_yes {n a z u : Int} {c : Bool} (h1 : isNode n = true) (h2 : kindOk a = true) (h3 : sizeOk a z = true) (h4 : (decide (a = 3) && c) = false) : isDesc ⟨n, a, z, u, c⟩ = inRange (cellsOf8 a z + 20) 1000 u := by
  unfold isDesc
  simp only
  rw [show inRange 0 31 n = true from h1, h2, h3, h4]
  rfl
end
end Go.Proofs.Ytbbodgeoenjdkaa
