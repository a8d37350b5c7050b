/-
  The plain functions of chapter 8, and what its laws say of them. No program is named here.
  Chapter 8: descriptors in memory; a descriptor copied and compared by the laws.
  Chapter 8: the cells of a frame, valid descriptors, the pause, on both sides.
-/
import Derived.Test.YtbdfnkhmnglpbaaFr1
import Derived.Test.YtbdfnkhmnglpbaaSixA
import Derived.Test.YtbdfnkhmnglpbaaFourA
import Derived.Test.YtbdfnkhmnglpbaaFiv
import Derived.Test.YtbdfnkhmnglpbaaOneB
import Derived.Test.YtbdfnkhmnglpbaaTs
import Derived.BigQuiet
namespace Go.Proofs.Ytbdfnkhmnglpbaa
section

/-- A descriptor: its node, its kind, its size, its duration, whether it may change the mode. -/
structure Ds where
  node : Int
  kind : Int
  size : Int
  dur : Int
  chg : Bool
def Ds.zero : Ds := ⟨0, 0, 0, 0, false⟩
/-- What a frame of the kind and size takes: the cells, or the error. -/
def cellsOf8 (a n : Int) : Int := 11 + 10 * ((bodySize a n).1 + 3)
def cellsNeeded (a n : Int) : Int × Int := if (bodySize a n).2 = 0 then (cellsOf8 a n, 0) else (0, (bodySize a n).2)
def isDesc (d : Ds) : Bool := inRange 0 31 d.node && (kindOk d.kind && (sizeOk d.kind d.size && (!(decide (d.kind = 3) && d.chg) && inRange (cellsOf8 d.kind d.size + 20) 1000 d.dur)))
def fits (d : Ds) (f : Fr) : Bool := isDesc d && (isFrame f && (decide (f.kind = d.kind) && (decide ((f.data.length : Int) = d.size) && (d.chg || decide (f.req = 0)))))
def pauseOf (d : Ds) : Int × Int := if isDesc d = true then (d.dur - cellsOf8 d.kind d.size, 0) else (0, 1)
def flag8 (c : Bool) : Int := if c = true then 1 else 0
def descBytes (d : Ds) : List Int := [d.node, d.kind * 64 + d.size, d.dur / 256, d.dur % 256, flag8 d.chg]
def descToBytes (d : Ds) : List Int × Int := if isDesc d = true then (descBytes d, 0) else ([], 1)
/-- What five numbers say. -/
def descRead (x0 x1 x2 x3 x4 : Int) : Ds := ⟨x0, x1 / 64, x1 % 64, 256 * x2 + x3, decide (x4 = 1)⟩
/-- The same, as the program reads any five numbers. -/
def descRaw (x0 x1 x2 x3 x4 : Int) : Ds := ⟨x0, x1 / 64, x1 % 64, IntKind.i64.wrap (IntKind.i64.wrap (x2 * 256) + x3), decide (x4 = 1)⟩
def descFrom (xs : List Int) : Ds × Int :=
  match xs with
  | [x0, x1, x2, x3, x4] => if isDesc (descRaw x0 x1 x2 x3 x4) = true ∧ descBytes (descRaw x0 x1 x2 x3 x4) = [x0, x1, x2, x3, x4] then (descRaw x0 x1 x2 x3 x4, 0) else (Ds.zero, 6)
  | _ => (Ds.zero, 6)
def zeros8 (n : Int) : List Int := List.replicate n.toNat 0
/-- The empty frame of a descriptor, before it is asked whether it is valid. -/
def emptyOf (d : Ds) (t m r s k : Int) : Fr := if hasState d.kind = true then ⟨d.kind, 0, t, m, r, s, k, zeros8 d.size⟩ else ⟨d.kind, 0, 0, 0, 0, 0, 0, zeros8 d.size⟩
def emptyFrame (d : Ds) (t m r s k : Int) : Fr × Int :=
  if isDesc d = true then (if isFrame (emptyOf d t m r s k) = true then (emptyOf d t m r s k, 0) else (Fr.zero, 2)) else (Fr.zero, 1)

theorem desc_parts {d : Ds} (h : isDesc d = true) : (0 ≤ d.node ∧ d.node ≤ 31) ∧ kindOk d.kind = true ∧ sizeOk d.kind d.size = true ∧ (d.kind = 3 → d.chg = false) ∧ cellsOf8 d.kind d.size + 20 ≤ d.dur ∧ d.dur ≤ 1000 := by
  unfold isDesc at h
  simp only [Bool.and_eq_true, Bool.not_eq_true', Bool.and_eq_false_iff] at h
  obtain ⟨h1, h2, h3, h4, h5⟩ := h
  refine ⟨inRange_iff.1 h1, h2, h3, fun e => ?_, (inRange_iff.1 h5).1, (inRange_iff.1 h5).2⟩
  rcases h4 with h4 | h4
  · exact absurd e (of_decide_eq_false h4)
  · exact h4
theorem bodySize_ok {a n : Int} (h1 : kindOk a = true) (h2 : sizeOk a n = true) : (bodySize a n).2 = 0 ∧ 1 ≤ (bodySize a n).1 ∧ (bodySize a n).1 ≤ 42 := by
  have := sizeOk_le h2
  unfold bodySize
  rw [if_neg (by simp [h1]), if_neg (by simp [h2])]
  refine ⟨rfl, ?_, ?_⟩ <;> split <;> split <;> simp <;> omega
theorem bodySize_in8 (a n : Int) : 0 ≤ (bodySize a n).1 ∧ (bodySize a n).1 ≤ 42 ∧ 0 ≤ (bodySize a n).2 ∧ (bodySize a n).2 ≤ 2 := by
  unfold bodySize
  split
  · simp
  · split
    · simp
    · rename_i h2
      have := sizeOk_le (a := a) (n := n) (by simpa using h2)
      split <;> split <;> simp <;> omega
theorem bodySize_err {a n : Int} : (bodySize a n).2 = 0 ↔ (kindOk a = true ∧ sizeOk a n = true) := by
  unfold bodySize
  split
  · rename_i h; simp [h]
  · rename_i h
    split
    · rename_i h2; simp [h2]
    · rename_i h2; simp at h h2; simp [h, h2]
theorem cells_in (a n : Int) : 41 ≤ cellsOf8 a n ∧ cellsOf8 a n ≤ 461 := by
  have := bodySize_in8 a n
  unfold cellsOf8
  omega
theorem cells_ok {d : Ds} (h : isDesc d = true) : cellsNeeded d.kind d.size = (cellsOf8 d.kind d.size, 0) := by
  obtain ⟨-, h1, h2, -⟩ := desc_parts h
  unfold cellsNeeded
  rw [if_pos (bodySize_ok h1 h2).1]
theorem cells_fst {a n : Int} (h : (cellsNeeded a n).2 = 0) : cellsNeeded a n = (cellsOf8 a n, 0) := by
  unfold cellsNeeded at h ⊢
  split
  · rfl
  · rename_i hc; rw [if_neg hc] at h; exact absurd h hc
/-- The program's order of the same questions. -/
theorem isDesc_eq (d : Ds) : isDesc d = (decide ((cellsNeeded d.kind d.size).2 = 0) && (isNode d.node && ((!decide (d.kind = 3) || !d.chg) && (decide (cellsOf8 d.kind d.size + 20 ≤ d.dur) && decide (d.dur ≤ 1000))))) := by
  have e : (cellsNeeded d.kind d.size).2 = (bodySize d.kind d.size).2 := by unfold cellsNeeded; split <;> simp_all
  rw [e, show isNode d.node = inRange 0 31 d.node from rfl, Bool.eq_iff_iff]
  unfold isDesc
  simp only [Bool.and_eq_true, Bool.or_eq_true, Bool.not_eq_true', Bool.and_eq_false_iff, decide_eq_true_eq, decide_eq_false_iff_not, bodySize_err, inRange_iff]
  constructor
  · rintro ⟨h1, h2, h3, h4, h5, h6⟩; exact ⟨⟨h2, h3⟩, h1, h4, h5, h6⟩
  · rintro ⟨⟨h2, h3⟩, h1, h4, h5, h6⟩; exact ⟨h1, h2, h3, h4, h5, h6⟩
theorem descBytes_len (d : Ds) : (descBytes d).length = 5 := rfl
theorem descToBytes_len (d : Ds) : (descToBytes d).1.length ≤ 5 := by
  unfold descToBytes
  split
  · exact Nat.le_refl _
  · exact Nat.zero_le _
theorem descBytes_le {d : Ds} (h : isDesc d = true) : ∀ x ∈ descBytes d, 0 ≤ x ∧ x ≤ 255 := by
  obtain ⟨h1, h2, h3, h4, h5, h6⟩ := desc_parts h
  have hk := kindOk_four h2
  have hs := sizeOk_le h3
  have hc := cells_in d.kind d.size
  intro x hx
  unfold descBytes at hx
  simp only [List.mem_cons, List.not_mem_nil, or_false] at hx
  rcases hx with rfl | rfl | rfl | rfl | rfl
  · omega
  · omega
  · omega
  · omega
  · unfold flag8; split <;> omega
theorem descBytes_bytes {d : Ds} (h : isDesc d = true) : isBytes (descBytes d) = true := isBytes_iff.2 ⟨by rw [descBytes_len]; omega, descBytes_le h⟩
theorem flag_back (c : Bool) : decide (flag8 c = 1) = c := by cases c <;> rfl
theorem read_desc {d : Ds} (h : isDesc d = true) : descRaw d.node (d.kind * 64 + d.size) (d.dur / 256) (d.dur % 256) (flag8 d.chg) = d := by
  obtain ⟨h1, h2, h3, h4, h5, h6⟩ := desc_parts h
  have hk := kindOk_four h2
  have hs := sizeOk_le h3
  have hc := cells_in d.kind d.size
  obtain ⟨n, a, z, u, c⟩ := d
  simp only at *
  unfold descRaw
  rw [flag_back, IntKind.wrap_i64, IntKind.wrap_i64]
  have e1 : (a * 64 + z) / 64 = a := by omega
  have e2 : (a * 64 + z) % 64 = z := by omega
  rw [e1, e2]
  congr 1
  omega
theorem desc_round {d : Ds} (h : isDesc d = true) : descFrom (descBytes d) = (d, 0) := by
  have hr := read_desc h
  unfold descFrom descBytes
  simp only
  rw [hr]
  simp [h]
/-- Five bytes are read without a turn of the numbers. -/
theorem raw_read {x0 x1 x2 x3 x4 : Int} (h2 : 0 ≤ x2 ∧ x2 ≤ 255) (h3 : 0 ≤ x3 ∧ x3 ≤ 255) : descRaw x0 x1 x2 x3 x4 = descRead x0 x1 x2 x3 x4 := by
  unfold descRaw descRead
  rw [IntKind.wrap_i64, IntKind.wrap_i64]
  congr 1
  omega
/-- The model's way: bytes first. -/
theorem descFrom_bytes {x0 x1 x2 x3 x4 : Int} (hb : isBytes [x0, x1, x2, x3, x4] = true) : descFrom [x0, x1, x2, x3, x4] = if isDesc (descRead x0 x1 x2 x3 x4) = true ∧ descBytes (descRead x0 x1 x2 x3 x4) = [x0, x1, x2, x3, x4] then (descRead x0 x1 x2 x3 x4, 0) else (Ds.zero, 6) := by
  have h := (isBytes_iff.1 hb).2
  unfold descFrom
  simp only
  rw [raw_read (h x2 (by simp)) (h x3 (by simp))]
theorem descFrom_nobytes {xs : List Int} (hb : isBytes xs = false) : descFrom xs = (Ds.zero, 6) := by
  unfold descFrom
  split
  · rw [if_neg]
    rintro ⟨h1, h2⟩
    have := descBytes_bytes h1
    rw [h2, hb] at this
    cases this
  · rfl
theorem descFrom_len {xs : List Int} (h : xs.length ≠ 5) : descFrom xs = (Ds.zero, 6) := by
  unfold descFrom
  split
  · exact absurd rfl h
  · rfl
theorem fits_parts {d : Ds} {f : Fr} (h : fits d f = true) : isFrame f = true ∧ f.kind = d.kind ∧ (f.data.length : Int) = d.size := by
  unfold fits at h
  simp only [Bool.and_eq_true, decide_eq_true_eq] at h
  exact ⟨h.2.1, h.2.2.1, h.2.2.2.1⟩
theorem zeros_len {n : Int} (h : 0 ≤ n) : ((zeros8 n).length : Int) = n := by unfold zeros8; rw [List.length_replicate]; omega
theorem empty_fits {d : Ds} {t m r s k : Int} (h : (emptyFrame d t m r s k).2 = 0) : fits d (emptyFrame d t m r s k).1 = true := by
  unfold emptyFrame at h ⊢
  split at h
  · rename_i hd
    split at h
    · rename_i hf
      rw [if_pos hd, if_pos hf]
      have hs := sizeOk_le (desc_parts hd).2.2.1
      have hz := zeros_len hs.1
      unfold fits
      rw [hd, hf]
      unfold emptyOf
      split <;> simp [hz]
    · simp at h
  · simp at h
theorem pause_law {d : Ds} (h : isDesc d = true) : (pauseOf d).2 = 0 ∧ 20 ≤ (pauseOf d).1 ∧ (pauseOf d).1 + (cellsNeeded d.kind d.size).1 = d.dur := by
  obtain ⟨-, -, -, -, h5, -⟩ := desc_parts h
  unfold pauseOf
  rw [if_pos h, cells_ok h]
  exact ⟨rfl, by simp only; omega, by simp only; omega⟩
end

section
open Go.RowKit

/-- Block b holds a descriptor. -/
def DescAt (T : Nat) (w : World) (b : Nat) (n a z u : Int) (c : Bool) : Prop := w.heap[b]? = some (.cells #[.int .i64 n, .int .i64 a, .int .i64 z, .int .i64 u, .bool c] T (0, 0))
/-- A descriptor handed back, all old memory as it was. -/
def GivesDesc (w : World) (n a z u : Int) (c : Bool) (e : Ending) (w' : World) : Prop := e = .returned (.agg #[.int .i64 n, .int .i64 a, .int .i64 z, .int .i64 u, .bool c]) ∧ Below w.heap.size w w'
section
variable {T b : Nat} {w w' : World} {n a z u : Int} {c : Bool}
theorem DescAt.c0 (h : DescAt T w b n a z u c) : w.cell? ⟨b, 0, none⟩ = some (.int .i64 n) := cell_of_row w b 0 _ _ (0, 0) h
theorem DescAt.c1 (h : DescAt T w b n a z u c) : w.cell? ⟨b, 1, none⟩ = some (.int .i64 a) := cell_of_row w b 1 _ _ (0, 0) h
theorem DescAt.c2 (h : DescAt T w b n a z u c) : w.cell? ⟨b, 2, none⟩ = some (.int .i64 z) := cell_of_row w b 2 _ _ (0, 0) h
theorem DescAt.c3 (h : DescAt T w b n a z u c) : w.cell? ⟨b, 3, none⟩ = some (.int .i64 u) := cell_of_row w b 3 _ _ (0, 0) h
theorem DescAt.c4 (h : DescAt T w b n a z u c) : w.cell? ⟨b, 4, none⟩ = some (.bool c) := cell_of_row w b 4 _ _ (0, 0) h
theorem DescAt.f (h : DescAt T w b n a z u c) (i : Nat) : w.frozen? ⟨b, i, none⟩ = false := frozen_of_row w b i _ _ h
theorem DescAt.lt (h : DescAt T w b n a z u c) : b < w.heap.size := (Array.getElem?_eq_some_iff.1 h).1
theorem DescAt.grown {g : Option Nat} (h : DescAt T w b n a z u c) (hg : w.grownBy w' g) (hne : some b ≠ g) : DescAt T w' b n a z u c := (hg.block b h.lt hne).trans h
theorem DescAt.below {B : Nat} (h : DescAt T w b n a z u c) (hb : Below B w w') (hlt : b < B) : DescAt T w' b n a z u c := (hb.block b hlt).trans h
theorem DescAt.new (w : World) : DescAt T (w.alloc (.cells #[.int .i64 n, .int .i64 a, .int .i64 z, .int .i64 u, .bool c] T)) w.heap.size n a z u c := heap_alloc_new w _
theorem DescAt.other (h : DescAt T w b n a z u c) {q i : Nat} {v : Value} (hne : b ≠ q) : DescAt T (w.setCell ⟨q, i, none⟩ v) b n a z u c := (heap_setCell_other _ _ _ _ hne).trans h
theorem DescAt.set0 (h : DescAt T w b n a z u c) (y : Int) : DescAt T (w.setCell ⟨b, 0, none⟩ (.int .i64 y)) b y a z u c := by
  have := heap_setCell_same w b 0 _ _ (.int .i64 y) h
  simpa [DescAt] using this
theorem DescAt.set1 (h : DescAt T w b n a z u c) (y : Int) : DescAt T (w.setCell ⟨b, 1, none⟩ (.int .i64 y)) b n y z u c := by
  have := heap_setCell_same w b 1 _ _ (.int .i64 y) h
  simpa [DescAt] using this
theorem DescAt.set2 (h : DescAt T w b n a z u c) (y : Int) : DescAt T (w.setCell ⟨b, 2, none⟩ (.int .i64 y)) b n a y u c := by
  have := heap_setCell_same w b 2 _ _ (.int .i64 y) h
  simpa [DescAt] using this
theorem DescAt.set3 (h : DescAt T w b n a z u c) (y : Int) : DescAt T (w.setCell ⟨b, 3, none⟩ (.int .i64 y)) b n a z y c := by
  have := heap_setCell_same w b 3 _ _ (.int .i64 y) h
  simpa [DescAt] using this
theorem DescAt.set4 (h : DescAt T w b n a z u c) (y : Bool) : DescAt T (w.setCell ⟨b, 4, none⟩ (.bool y)) b n a z u y := by
  have := heap_setCell_same w b 4 _ _ (.bool y) h
  simpa [DescAt] using this
theorem desc_cells (h : DescAt T w b n a z u c) : w.cell? ⟨b, 0, none⟩ = some (.int .i64 n) ∧ w.cell? ⟨b, 1, none⟩ = some (.int .i64 a) ∧ w.cell? ⟨b, 2, none⟩ = some (.int .i64 z) ∧ w.cell? ⟨b, 3, none⟩ = some (.int .i64 u) ∧ w.cell? ⟨b, 4, none⟩ = some (.bool c) := ⟨h.c0, h.c1, h.c2, h.c3, h.c4⟩
end
/-- The struct that a call lays first reads as it was behind whatever leaves old memory alone. -/
theorem desc_new {T : Nat} {w w' : World} {n a z u : Int} {c : Bool} (h : Below (w.alloc (.cells #[.int .i64 n, .int .i64 a, .int .i64 z, .int .i64 u, .bool c] T)).heap.size (w.alloc (.cells #[.int .i64 n, .int .i64 a, .int .i64 z, .int .i64 u, .bool c] T)) w') : DescAt T w' w.heap.size n a z u c :=
  (DescAt.new w).below h (by simp)
theorem toDescriptor_any (n a z u : Int) (c : Bool) (w : World) : Calls Try.prog 64 #[.agg #[.int .i64 n, .int .i64 a, .int .i64 z, .int .i64 u, .bool c]] w (GivesDesc w n a z u c) := by
  go_enter Try.func64, Try.ntmps64
  go_wp2
  exact bodyPost_ret (v := .agg #[.int .i64 n, .int .i64 a, .int .i64 z, .int .i64 u, .bool c]) (by simp [results, Try.results64, go_sem]) rfl ⟨rfl, (((Below.refl _ _).alloc (Nat.le_refl _) _).alloc (by simp) _).alloc (by simp; omega) _⟩
theorem eqDescriptor_any (n a z u : Int) (c : Bool) (w : World) : Calls Try.prog 66 #[.agg #[.int .i64 n, .int .i64 a, .int .i64 z, .int .i64 u, .bool c], .agg #[.int .i64 n, .int .i64 a, .int .i64 z, .int .i64 u, .bool c]] w fun e w' => e = .returned (.bool true) ∧ Below w.heap.size w w' := by
  have h0 : (n != n) = false := by simp
  have h1 : (a != a) = false := by simp
  have h2 : (z != z) = false := by simp
  have h3 : (u != u) = false := by simp
  have h4 : (c != c) = false := by simp
  go_enter Try.func66, Try.ntmps66
  go_wp2
  go_ret
  exact ⟨rfl, ((Below.refl _ _).alloc (Nat.le_refl _) _).alloc (by simp) _⟩
end

section
open Go.RowKit

def sealSz (a n : Int) : Int × Int := if (bodySize a n).2 = 0 then ((bodySize a n).1 + 3, 0) else (0, (bodySize a n).2)
theorem sealSz_any (a n : Int) (w : World) : Calls Try.prog 26 #[.int .i64 a, .int .i64 n] w fun e w' => e = .returned (.tuple #[.int .i64 (sealSz a n).1, .int .i64 (sealSz a n).2]) ∧ Below w.heap.size w w' := by
  have hb := fun (W : World) => bodySize_any a n W
  have hin := bodySize_in8 a n
  obtain ⟨z, c, hz⟩ : ∃ z c, bodySize a n = (z, c) := ⟨_, _, rfl⟩
  unfold sealSz
  rw [hz] at hb hin ⊢
  simp only at hb hin ⊢
  have HBS := Lib.hid hb; clear hb hz
  by_cases h0 : c = 0
  · subst h0
    rw [if_pos rfl]
    have hw : IntKind.i64.wrap (z + 3) = z + 3 := by rw [IntKind.wrap_i64]; omega
    clear hin
    go_enter Try.func26, Try.ntmps26
    go_wp2_with fail
    refine (HBS.out _).mono ?_
    rintro e w1 ⟨rfl, b1⟩
    go_wp2
    go_ret2
    exact ⟨rfl, b1⟩
  · rw [if_neg h0]
    have t1 : (c != 0) = true := by simp [h0]
    go_enter Try.func26, Try.ntmps26
    go_wp2_with fail
    refine (HBS.out _).mono ?_
    rintro e w1 ⟨rfl, b1⟩
    go_wp2
    go_ret2
    exact ⟨rfl, b1⟩
theorem cellsNeeded_any (a n : Int) (w : World) : Calls Try.prog 45 #[.int .i64 a, .int .i64 n] w fun e w' => e = .returned (.tuple #[.int .i64 (cellsNeeded a n).1, .int .i64 (cellsNeeded a n).2]) ∧ Below w.heap.size w w' := by
  have hb := fun (W : World) => sealSz_any a n W
  have hin := bodySize_in8 a n
  unfold sealSz at hb
  unfold cellsNeeded cellsOf8
  obtain ⟨z, c, hz⟩ : ∃ z c, bodySize a n = (z, c) := ⟨_, _, rfl⟩
  rw [hz] at hb hin ⊢
  simp only at hb hin ⊢
  by_cases h0 : c = 0
  · subst h0
    rw [if_pos rfl] at hb ⊢
    simp only at hb ⊢
    obtain ⟨y, hy⟩ : ∃ y, z + 3 = y := ⟨_, rfl⟩
    rw [hy] at hb ⊢
    have hts : transmissionSize y 8 = (11 + 10 * y, 0) := by rw [ts_0 (by omega) (by omega) rfl]; congr 1
    have HTS := Lib.hid hts; clear hts
    have HBS := Lib.hid hb; clear hb hin hz hy
    go_enter Try.func45, Try.ntmps45
    go_wp2_with fail
    refine (HBS.out _).mono ?_
    rintro e w1 ⟨rfl, b1⟩
    go_wp2_with fail
    refine (transmissionSize_any _ _ _).mono ?_
    rintro e w2 ⟨rfl, rfl⟩
    rw [HTS.out]
    go_wp2
    go_ret2
    exact ⟨rfl, b1⟩
  · rw [if_neg h0] at hb ⊢
    have t1 : (c != 0) = true := by simp [h0]
    have HBS := Lib.hid hb; clear hb hin hz
    go_enter Try.func45, Try.ntmps45
    go_wp2_with fail
    refine (HBS.out _).mono ?_
    rintro e w1 ⟨rfl, b1⟩
    go_wp2
    go_ret2
    exact ⟨rfl, b1⟩
set_option maxRecDepth 100000 in
theorem isDescriptor_any (n a z u : Int) (c : Bool) (w : World) : Calls Try.prog 43 #[.agg #[.int .i64 n, .int .i64 a, .int .i64 z, .int .i64 u, .bool c]] w fun e w' => e = .returned (.bool (isDesc ⟨n, a, z, u, c⟩)) ∧ Below w.heap.size w w' := by
  have hb := fun (W : World) => cellsNeeded_any a z W
  have hin := cells_in a z
  rw [isDesc_eq]
  simp only
  have hx0 : (cellsNeeded a z).2 = 0 → (cellsNeeded a z).1 = cellsOf8 a z := fun h => by rw [cells_fst h]
  generalize cellsOf8 a z = y at hin hx0 ⊢
  obtain ⟨x, k, hx⟩ : ∃ x k, cellsNeeded a z = (x, k) := ⟨_, _, rfl⟩
  rw [hx] at hb hx0 ⊢
  simp only at hb hx0 ⊢
  have HB := Lib.hid hb; clear hb hx
  by_cases hk : k = 0
  · subst hk
    obtain rfl : x = y := hx0 rfl
    have hw : IntKind.i64.wrap (x + 20) = x + 20 := by rw [IntKind.wrap_i64]; omega
    clear hin hx0
    rw [show decide ((0 : Int) = 0) = true from rfl, Bool.true_and]
    rcases hn : isNode n with _ | _
    · have HN := Lib.hid hn; clear hn
      rw [Bool.false_and]
      go_enter Try.func43, Try.ntmps43
      go_wp2_with (first | (go_at_call 45; refine (HB.out _).mono ?_; rintro e w1 ⟨rfl, b1⟩; have hd := desc_new b1; have d0 := hd.c0; have d1 := hd.c1; have d2 := hd.c2; have d3 := hd.c3; have d4 := hd.c4; clear hd) | (go_at_call 103; refine (isNode_any _ _).mono ?_; rintro e w2 ⟨rfl, rfl⟩; rw [HN.out]))
      go_ret
      exact ⟨rfl, below_box b1⟩
    · have HN := Lib.hid hn; clear hn
      rw [Bool.true_and]
      by_cases h3 : a = 3
      · subst h3
        cases c with
        | true =>
          go_enter Try.func43, Try.ntmps43
          go_wp2_with (first | (go_at_call 45; refine (HB.out _).mono ?_; rintro e w1 ⟨rfl, b1⟩; have hd := desc_new b1; have d0 := hd.c0; have d1 := hd.c1; have d2 := hd.c2; have d3 := hd.c3; have d4 := hd.c4; clear hd) | (go_at_call 103; refine (isNode_any _ _).mono ?_; rintro e w2 ⟨rfl, rfl⟩; rw [HN.out]))
          go_ret
          exact ⟨rfl, below_box b1⟩
        | false =>
          by_cases h4 : x + 20 ≤ u
          · have h4' : decide (x + 20 ≤ u) = true := decide_eq_true h4
            rw [h4']
            go_enter Try.func43, Try.ntmps43
            go_wp2_with (first | (go_at_call 45; refine (HB.out _).mono ?_; rintro e w1 ⟨rfl, b1⟩; have hd := desc_new b1; have d0 := hd.c0; have d1 := hd.c1; have d2 := hd.c2; have d3 := hd.c3; have d4 := hd.c4; clear hd) | (go_at_call 103; refine (isNode_any _ _).mono ?_; rintro e w2 ⟨rfl, rfl⟩; rw [HN.out]))
            go_ret
            exact ⟨by simp, below_box b1⟩
          · have h4' : decide (x + 20 ≤ u) = false := decide_eq_false h4
            rw [h4']
            go_enter Try.func43, Try.ntmps43
            go_wp2_with (first | (go_at_call 45; refine (HB.out _).mono ?_; rintro e w1 ⟨rfl, b1⟩; have hd := desc_new b1; have d0 := hd.c0; have d1 := hd.c1; have d2 := hd.c2; have d3 := hd.c3; have d4 := hd.c4; clear hd) | (go_at_call 103; refine (isNode_any _ _).mono ?_; rintro e w2 ⟨rfl, rfl⟩; rw [HN.out]))
            go_ret
            exact ⟨by simp, below_box b1⟩
      · have h3' : (a != 3) = true := by simp [h3]
        rw [show decide (a = 3) = false from decide_eq_false h3]
        by_cases h4 : x + 20 ≤ u
        · have h4' : decide (x + 20 ≤ u) = true := decide_eq_true h4
          rw [h4']
          go_enter Try.func43, Try.ntmps43
          go_wp2_with (first | (go_at_call 45; refine (HB.out _).mono ?_; rintro e w1 ⟨rfl, b1⟩; have hd := desc_new b1; have d0 := hd.c0; have d1 := hd.c1; have d2 := hd.c2; have d3 := hd.c3; have d4 := hd.c4; clear hd) | (go_at_call 103; refine (isNode_any _ _).mono ?_; rintro e w2 ⟨rfl, rfl⟩; rw [HN.out]))
          go_ret
          exact ⟨by simp, below_box b1⟩
        · have h4' : decide (x + 20 ≤ u) = false := decide_eq_false h4
          rw [h4']
          go_enter Try.func43, Try.ntmps43
          go_wp2_with (first | (go_at_call 45; refine (HB.out _).mono ?_; rintro e w1 ⟨rfl, b1⟩; have hd := desc_new b1; have d0 := hd.c0; have d1 := hd.c1; have d2 := hd.c2; have d3 := hd.c3; have d4 := hd.c4; clear hd) | (go_at_call 103; refine (isNode_any _ _).mono ?_; rintro e w2 ⟨rfl, rfl⟩; rw [HN.out]))
          go_ret
          exact ⟨by simp, below_box b1⟩
  · have hk' : (k == 0) = false := by simp [hk]
    clear hin hx0
    rw [show decide (k = 0) = false from decide_eq_false hk]
    go_enter Try.func43, Try.ntmps43
    go_wp2_with (first | (go_at_call 45; refine (HB.out _).mono ?_; rintro e w1 ⟨rfl, b1⟩; have hd := desc_new b1; have d0 := hd.c0; have d1 := hd.c1; have d2 := hd.c2; have d3 := hd.c3; have d4 := hd.c4; clear hd))
    go_ret
    exact ⟨rfl, below_box b1⟩
theorem pauseOf_any (n a z u : Int) (c : Bool) (w : World) : Calls Try.prog 38 #[.agg #[.int .i64 n, .int .i64 a, .int .i64 z, .int .i64 u, .bool c]] w fun e w' => e = .returned (.tuple #[.int .i64 (pauseOf ⟨n, a, z, u, c⟩).1, .int .i64 (pauseOf ⟨n, a, z, u, c⟩).2]) ∧ Below w.heap.size w w' := by
  have hi := fun (W : World) => isDescriptor_any n a z u c W
  have hb := fun (W : World) => cellsNeeded_any a z W
  unfold pauseOf
  rcases hd : isDesc ⟨n, a, z, u, c⟩ with _ | _
  · rw [hd] at hi
    rw [if_neg (by simp)]
    have HI := Lib.hid hi; clear hi hd hb
    go_enter Try.func38, Try.ntmps38
    go_wp2_with fail
    refine (HI.out _).mono ?_
    rintro e w1 ⟨rfl, b1⟩
    go_wp2
    go_ret2
    exact ⟨rfl, below_box b1⟩
  · rw [hd] at hi
    rw [if_pos rfl]
    have hin := cells_in a z
    obtain ⟨-, -, -, -, h5, h6⟩ := desc_parts hd
    simp only at h5 h6 ⊢
    rw [cells_ok hd] at hb
    simp only at hb
    generalize cellsOf8 a z = y at hb hin h5 ⊢
    have hw : IntKind.i64.wrap (u - y) = u - y := by rw [IntKind.wrap_i64]; omega
    have HI := Lib.hid hi; have HB := Lib.hid hb; clear hi hd hb hin h5 h6
    go_enter Try.func38, Try.ntmps38
    go_wp2_with fail
    refine (HI.out _).mono ?_
    rintro e w1 ⟨rfl, b1⟩
    have hd := desc_new b1
    have d1 := hd.c1; have d2 := hd.c2
    go_wp2_with fail
    refine (HB.out _).mono ?_
    rintro e w2 ⟨rfl, b2⟩
    have d3 := (hd.below b2 hd.lt).c3
    go_wp2
    go_ret2
    exact ⟨rfl, below_two (below_box b1) b2⟩

/-! ### the model -/
theorem l08Cells_any (a n : Int) (w : World) (hk : kindOk a = true) (hs : sizeOk a n = true) : Calls Try.prog 100 #[.int .i64 a, .int .i64 n] w fun e w' => e = .returned (.int .i64 (cellsOf8 a n)) ∧ w = w' := by
  have hb := fun (W : World) => l06BodySize_any a n W hk hs
  have hin := bodySize_in8 a n
  have e := bs_0 hk hs
  unfold cellsOf8
  rw [e] at hin ⊢
  simp only at hin ⊢
  obtain ⟨y, hy⟩ : ∃ y : Int, (1 + (if hasState a = true then 8 else 0) + (if hasData a = true then 1 + n else 0)) = y := ⟨_, rfl⟩
  rw [hy] at hin hb ⊢
  have hw : IntKind.i64.wrap (y + 3) = y + 3 := by rw [IntKind.wrap_i64]; omega
  have hw1 : IntKind.i64.wrap (10 * (y + 3)) = 10 * (y + 3) := by rw [IntKind.wrap_i64]; omega
  have hw2 : IntKind.i64.wrap (11 + 10 * (y + 3)) = 11 + 10 * (y + 3) := by rw [IntKind.wrap_i64]; omega
  have HB := Lib.hid hb; clear hb hin hy e
  go_enter Try.func100, Try.ntmps100
  go_wp2_with fail
  refine (HB.out _).mono ?_
  rintro e w1 ⟨rfl, rfl⟩
  go_wp2
  go_ret
  exact ⟨rfl, rfl⟩
theorem sCellsNeeded_any (a n : Int) (w : World) : Calls Try.prog 65 #[.int .i64 a, .int .i64 n] w fun e w' => e = .returned (.tuple #[.int .i64 (cellsNeeded a n).1, .int .i64 (cellsNeeded a n).2]) ∧ Below w.heap.size w w' := by
  have hb := fun (W : World) => sBodySize_any a n W
  by_cases h0 : (bodySize a n).2 = 0
  · have hks := bodySize_err.1 h0
    have hc := fun (W : World) => l08Cells_any a n W hks.1 hks.2
    unfold cellsNeeded
    rw [if_pos h0]
    simp only
    rw [h0] at hb
    generalize (bodySize a n).1 = y at hb
    generalize cellsOf8 a n = x at hc ⊢
    have HB := Lib.hid hb; have HC := Lib.hid hc; clear hb hc h0 hks
    go_enter Try.func65, Try.ntmps65
    go_wp2_with fail
    refine (HB.out _).mono ?_
    rintro e w1 ⟨rfl, rfl⟩
    go_wp2_with fail
    refine (HC.out _).mono ?_
    rintro e w1 ⟨rfl, rfl⟩
    go_wp2
    go_ret2
    exact ⟨rfl, Below.refl _ _⟩
  · unfold cellsNeeded
    rw [if_neg h0]
    simp only
    generalize (bodySize a n).1 = y at hb
    generalize (bodySize a n).2 = k at hb h0 ⊢
    have hk' : (k != 0) = true := by simp [h0]
    have HB := Lib.hid hb; clear hb
    go_enter Try.func65, Try.ntmps65
    go_wp2_with fail
    refine (HB.out _).mono ?_
    rintro e w1 ⟨rfl, rfl⟩
    go_wp2
    go_ret2
    exact ⟨rfl, Below.refl _ _⟩
theorem id_no {n a z u : Int} {c : Bool} (h : isNode n = false ∨ kindOk a = false ∨ sizeOk a z = false ∨ (a = 3 ∧ c = true)) : isDesc ⟨n, a, z, u, c⟩ = false := by
  unfold isDesc
  simp only
  rcases h with h | h | h | ⟨rfl, rfl⟩
  · rw [show inRange 0 31 n = false from h, Bool.false_and]
  · rw [h, Bool.false_and, Bool.and_false]
  · rw [h, Bool.false_and, Bool.and_false, Bool.and_false]
  · simp
theorem id_yes {n a z u : Int} {c : Bool} (h1 : isNode n = true) (h2 : kindOk a = true) (h3 : sizeOk a z = true) (h4 : (decide (a = 3) && c) = false) : isDesc ⟨n, a, z, u, c⟩ = inRange (cellsOf8 a z + 20) 1000 u := by
  unfold isDesc
  simp only
  rw [show inRange 0 31 n = true from h1, h2, h3, h4]
  rfl
set_option maxRecDepth 100000 in
theorem sIsDescriptor_any (n a z u : Int) (c : Bool) (w : World) : Calls Try.prog 44 #[.agg #[.int .i64 n, .int .i64 a, .int .i64 z, .int .i64 u, .bool c]] w fun e w' => e = .returned (.bool (isDesc ⟨n, a, z, u, c⟩)) ∧ Below w.heap.size w w' := by
  rcases hn : isNode n with _ | _
  · rw [id_no (.inl hn)]
    have HN := Lib.hid hn; clear hn
    go_enter Try.func44, Try.ntmps44
    go_wp2_with (go_at_call 104; refine (l05Node_any _ _).mono ?_; rintro e w2 ⟨rfl, rfl⟩; rw [HN.out])
    go_ret
    exact ⟨rfl, (Below.refl _ _).alloc (Nat.le_refl _) _⟩
  rcases hk : kindOk a with _ | _
  · rw [id_no (.inr (.inl hk))]
    have HN := Lib.hid hn; have HK := Lib.hid hk; clear hn hk
    go_enter Try.func44, Try.ntmps44
    go_wp2_with (first | (go_at_call 104; refine (l05Node_any _ _).mono ?_; rintro e w2 ⟨rfl, rfl⟩; rw [HN.out]) | (go_at_call 105; refine (l06Kind_any _ _).mono ?_; rintro e w2 ⟨rfl, rfl⟩; rw [HK.out]))
    go_ret
    exact ⟨rfl, (Below.refl _ _).alloc (Nat.le_refl _) _⟩
  rcases hs : sizeOk a z with _ | _
  · rw [id_no (.inr (.inr (.inl hs)))]
    have HN := Lib.hid hn; have HK := Lib.hid hk; have HS := Lib.hid hs; clear hn hk hs
    go_enter Try.func44, Try.ntmps44
    go_wp2_with (first | (go_at_call 104; refine (l05Node_any _ _).mono ?_; rintro e w2 ⟨rfl, rfl⟩; rw [HN.out]) | (go_at_call 105; refine (l06Kind_any _ _).mono ?_; rintro e w2 ⟨rfl, rfl⟩; rw [HK.out]) | (go_at_call 106; refine (l06Size_any _ _ _).mono ?_; rintro e w2 ⟨rfl, rfl⟩; rw [HS.out]))
    go_ret
    exact ⟨rfl, (Below.refl _ _).alloc (Nat.le_refl _) _⟩
  by_cases h3 : a = 3
  · subst h3
    cases c with
    | true =>
      rw [id_no (.inr (.inr (.inr ⟨rfl, rfl⟩)))]
      have HN := Lib.hid hn; have HK := Lib.hid hk; have HS := Lib.hid hs; clear hn hk hs
      go_enter Try.func44, Try.ntmps44
      go_wp2_with (first | (go_at_call 104; refine (l05Node_any _ _).mono ?_; rintro e w2 ⟨rfl, rfl⟩; rw [HN.out]) | (go_at_call 105; refine (l06Kind_any _ _).mono ?_; rintro e w2 ⟨rfl, rfl⟩; rw [HK.out]) | (go_at_call 106; refine (l06Size_any _ _ _).mono ?_; rintro e w2 ⟨rfl, rfl⟩; rw [HS.out]))
      go_ret
      exact ⟨rfl, (Below.refl _ _).alloc (Nat.le_refl _) _⟩
    | false =>
      rw [id_yes hn hk hs rfl]
      have hc := fun (W : World) => l08Cells_any 3 z W hk hs
      have hin := cells_in 3 z
      generalize cellsOf8 3 z = y at hc hin ⊢
      have hw : IntKind.i64.wrap (y + 20) = y + 20 := by rw [IntKind.wrap_i64]; omega
      have HC := Lib.hid hc; clear hc hin
      have HN := Lib.hid hn; have HK := Lib.hid hk; have HS := Lib.hid hs; clear hn hk hs
      go_enter Try.func44, Try.ntmps44
      go_wp2_with (first | (go_at_call 104; refine (l05Node_any _ _).mono ?_; rintro e w2 ⟨rfl, rfl⟩; rw [HN.out]) | (go_at_call 105; refine (l06Kind_any _ _).mono ?_; rintro e w2 ⟨rfl, rfl⟩; rw [HK.out]) | (go_at_call 106; refine (l06Size_any _ _ _).mono ?_; rintro e w2 ⟨rfl, rfl⟩; rw [HS.out]))
      go_quiet (first | (go_at_call 100; exact quiet_left (HC.out _)) | (go_at_call 107; exact quiet_left (l01In_any _ _ _ _)))
      go_wp2
      go_ret
      exact ⟨rfl, below_drewN' ((Below.refl _ _).alloc (Nat.le_refl _) _) _⟩
  · have h3' : (a == 3) = false := by simp [h3]
    rw [id_yes hn hk hs (by simp [h3])]
    have hc := fun (W : World) => l08Cells_any a z W hk hs
    have hin := cells_in a z
    generalize cellsOf8 a z = y at hc hin ⊢
    have hw : IntKind.i64.wrap (y + 20) = y + 20 := by rw [IntKind.wrap_i64]; omega
    have HC := Lib.hid hc; clear hc hin
    have HN := Lib.hid hn; have HK := Lib.hid hk; have HS := Lib.hid hs; clear hn hk hs
    go_enter Try.func44, Try.ntmps44
    go_wp2_with (first | (go_at_call 104; refine (l05Node_any _ _).mono ?_; rintro e w2 ⟨rfl, rfl⟩; rw [HN.out]) | (go_at_call 105; refine (l06Kind_any _ _).mono ?_; rintro e w2 ⟨rfl, rfl⟩; rw [HK.out]) | (go_at_call 106; refine (l06Size_any _ _ _).mono ?_; rintro e w2 ⟨rfl, rfl⟩; rw [HS.out]))
    go_quiet (first | (go_at_call 100; exact quiet_left (HC.out _)) | (go_at_call 107; exact quiet_left (l01In_any _ _ _ _)))
    go_wp2
    go_ret
    exact ⟨rfl, below_drewN' ((Below.refl _ _).alloc (Nat.le_refl _) _) _⟩
theorem sPauseOf_any (n a z u : Int) (c : Bool) (w : World) : Calls Try.prog 39 #[.agg #[.int .i64 n, .int .i64 a, .int .i64 z, .int .i64 u, .bool c]] w fun e w' => e = .returned (.tuple #[.int .i64 (pauseOf ⟨n, a, z, u, c⟩).1, .int .i64 (pauseOf ⟨n, a, z, u, c⟩).2]) ∧ Below w.heap.size w w' := by
  have hi := fun (W : World) => sIsDescriptor_any n a z u c W
  unfold pauseOf
  rcases hd : isDesc ⟨n, a, z, u, c⟩ with _ | _
  · rw [hd] at hi
    rw [if_neg (by simp)]
    have HI := Lib.hid hi; clear hi hd
    go_enter Try.func39, Try.ntmps39
    go_wp2_with fail
    refine (HI.out _).mono ?_
    rintro e w1 ⟨rfl, b1⟩
    go_wp2
    go_ret2
    exact ⟨rfl, below_box b1⟩
  · rw [hd] at hi
    rw [if_pos rfl]
    have hin := cells_in a z
    obtain ⟨-, hk, hs, -, h5, h6⟩ := desc_parts hd
    simp only at hk hs h5 h6 ⊢
    have hb := fun (W : World) => l08Cells_any a z W hk hs
    generalize cellsOf8 a z = y at hb hin h5 ⊢
    have hw : IntKind.i64.wrap (u - y) = u - y := by rw [IntKind.wrap_i64]; omega
    have HI := Lib.hid hi; have HB := Lib.hid hb; clear hi hd hb hin h5 h6 hk hs
    go_enter Try.func39, Try.ntmps39
    go_wp2_with fail
    refine (HI.out _).mono ?_
    rintro e w1 ⟨rfl, b1⟩
    have hd := desc_new b1
    have d1 := hd.c1; have d2 := hd.c2; have d3 := hd.c3
    clear hd
    go_wp2
    go_quiet ((go_at_call 100; exact quiet_left (HB.out _)))
    go_wp2
    go_ret2
    exact ⟨rfl, below_drewN' (below_box b1) _⟩
end
end Go.Proofs.Ytbdfnkhmnglpbaa
