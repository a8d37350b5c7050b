/-
  Entries of mode tables in memory: what reads as an entry, as a list of entries; what a call owns, each entry's list in a block of its own. No program is named here.
-/
import Derived.Test.YtpedlofckbplmaaMd1
import Derived.Test.YtpedlofckbplmaaHl
namespace Go.Proofs.Ytpedlofckbplmaa
open Go.RowKit

/-- An entry as it lies in memory: what it says, and where its list lies. -/
structure Mc where
  md : Md
  ao : Option Addr
  cap : Nat
def Mc.v (c : Mc) : Value := .slice c.ao c.md.next.length c.cap
def Mc.zero : Mc := ⟨Md.zero, none, 0⟩
def mcVal (c : Mc) : Value := .agg #[.int .i64 c.md.rounds, .int .i64 c.md.slots, .slice c.ao c.md.next.length c.cap]
def mcCells (c : Mc) : List Value := [.int .i64 c.md.rounds, .int .i64 c.md.slots, .slice c.ao c.md.next.length c.cap]
def mcOf (cs : List Mc) (i : Nat) : Mc := cs.getD i Mc.zero
def mds (cs : List Mc) : List Md := cs.map Mc.md
structure McIn (w : World) (b off : Nat) (c : Mc) : Prop where
  c0 : w.cell? ⟨b, off, none⟩ = some (.int .i64 c.md.rounds)
  c1 : w.cell? ⟨b, off + 1, none⟩ = some (.int .i64 c.md.slots)
  c2 : w.cell? ⟨b, off + 2, none⟩ = some (.slice c.ao c.md.next.length c.cap)
/-- Block b holds an entry. -/
def McAt (T : Nat) (w : World) (b : Nat) (c : Mc) : Prop := w.heap[b]? = some (.cells #[.int .i64 c.md.rounds, .int .i64 c.md.slots, .slice c.ao c.md.next.length c.cap] T (0, 0))
/-- The list of an entry reads in w. -/
structure McRd (w : World) (c : Mc) : Prop where
  rd : Rd w c.ao c.md.next.length c.md.next
  le : c.md.next.length ≤ c.cap
  cap : c.cap ≤ 9223372036854775807
/-- The slice value at 'ao' of length n reads in w as the entries cs. -/
structure RdM (w : World) (ao : Option Addr) (n : Nat) (cs : List Mc) : Prop where
  len : cs.length = n
  here : 0 < n → ∃ b off, ao = some ⟨b, off, none⟩ ∧ ∀ i, i < n → McIn w b (off + i * 3) (mcOf cs i)
  next : ∀ c ∈ cs, McRd w c
/-- A slice of entries of the call's own. -/
structure OwnM (E EI : Nat) (w : World) (base : Nat) (v : Value) (cs : List Mc) : Prop where
  row : w.ownsRow base E 3 v cs.length (cs.flatMap mcCells)
  nx : ∀ c ∈ cs, Own EI w base c.v c.md.next
  apart : cs.Pairwise fun p q => ∀ k, p.v.ownBlock = some k → q.v.ownBlock ≠ some k

theorem mds_len (cs : List Mc) : (mds cs).length = cs.length := List.length_map ..
theorem mcOf_get {cs : List Mc} {i : Nat} (h : i < cs.length) : mcOf cs i = cs[i] := by simp [mcOf, List.getD, List.getElem?_eq_getElem h]
theorem mcOf_mem {cs : List Mc} {i : Nat} (h : i < cs.length) : mcOf cs i ∈ cs := by rw [mcOf_get h]; exact List.getElem_mem h
theorem mdOf_mds (cs : List Mc) (i : Nat) : mdOf (mds cs) i = (mcOf cs i).md := by
  by_cases h : i < cs.length
  · rw [mdOf_get (by rw [mds_len]; exact h), mcOf_get h]; simp [mds]
  · rw [mdOf_out (by rw [mds_len]; exact h)]
    simp [mcOf, List.getD, List.getElem?_eq_none (Nat.not_lt.1 h), Mc.zero]
theorem mcOf_take {cs : List Mc} {k i : Nat} (h : i < k) : mcOf (cs.take k) i = mcOf cs i := by simp [mcOf, List.getD, h]

section
variable {w w' : World} {E EI T base n b off : Nat} {ao : Option Addr} {v : Value} {cs : List Mc} {c : Mc}
theorem McIn.lt (h : McIn w b off c) : b < w.heap.size := World.block_lt_of_cell? w _ h.c0
theorem McIn.below {B : Nat} (h : McIn w b off c) (hb : Below B w w') (hlt : b < B) : McIn w' b off c :=
  ⟨(hb.cell (p := ⟨b, off, none⟩) hlt).trans h.c0, (hb.cell (p := ⟨b, off + 1, none⟩) hlt).trans h.c1, (hb.cell (p := ⟨b, off + 2, none⟩) hlt).trans h.c2⟩
theorem McIn.grown {g : Option Nat} (h : McIn w b off c) (hg : w.grownBy w' g) (hne : some b ≠ g) : McIn w' b off c :=
  ⟨hg.cell h.c0 hne, hg.cell h.c1 hne, hg.cell h.c2 hne⟩
theorem McAt.in_ (h : McAt T w b c) : McIn w b 0 c := ⟨cell_of_row w b 0 _ _ (0, 0) h, cell_of_row w b 1 _ _ (0, 0) h, cell_of_row w b 2 _ _ (0, 0) h⟩
theorem McAt.f (h : McAt T w b c) (i : Nat) : w.frozen? ⟨b, i, none⟩ = false := frozen_of_row w b i _ _ h
theorem McAt.lt (h : McAt T w b c) : b < w.heap.size := (Array.getElem?_eq_some_iff.1 h).1
theorem McAt.below {B : Nat} (h : McAt T w b c) (hb : Below B w w') (hlt : b < B) : McAt T w' b c := (hb.block b hlt).trans h
theorem McAt.grown {g : Option Nat} (h : McAt T w b c) (hg : w.grownBy w' g) (hne : some b ≠ g) : McAt T w' b c := (hg.block b h.lt hne).trans h
theorem McAt.new (w : World) : McAt T (w.alloc (.cells #[.int .i64 c.md.rounds, .int .i64 c.md.slots, .slice c.ao c.md.next.length c.cap] T)) w.heap.size c := heap_alloc_new w _
theorem McRd.below (h : McRd w c) (hb : Below w.heap.size w w') : McRd w' c := ⟨h.rd.below hb, h.le, h.cap⟩
theorem RdM.nil_ : RdM w ao 0 [] := ⟨rfl, fun h => absurd h (by omega), fun _ h => by cases h⟩
theorem RdM.at (h : RdM w ao n cs) {i : Nat} (hi : i < n) : ∃ b off, ao = some ⟨b, off, none⟩ ∧ b < w.heap.size ∧ McIn w b (off + i * 3) (mcOf cs i) ∧ McRd w (mcOf cs i) := by
  obtain ⟨b, off, e, hc⟩ := h.here (by omega)
  exact ⟨b, off, e, (hc i hi).lt, hc i hi, h.next _ (mcOf_mem (by rw [h.len]; exact hi))⟩
theorem RdM.below (h : RdM w ao n cs) (hb : Below w.heap.size w w') : RdM w' ao n cs :=
  ⟨h.len, fun hn => by
    obtain ⟨b, off, e, hc⟩ := h.here hn
    exact ⟨b, off, e, fun i hi => (hc i hi).below hb (hc i hi).lt⟩, fun c hc => (h.next c hc).below hb⟩
theorem flatM_len (cs : List Mc) : (cs.flatMap mcCells).length = cs.length * 3 := by
  induction cs with
  | nil => rfl
  | cons a r ih => rw [List.flatMap_cons, List.length_append, ih]; simp [mcCells]; omega
theorem flatM_get (cs : List Mc) (i j : Nat) (hi : i < cs.length) (hj : j < 3) : (cs.flatMap mcCells)[i * 3 + j]? = (mcCells (mcOf cs i))[j]? := by
  induction cs generalizing i with
  | nil => simp at hi
  | cons a r ih =>
    cases i with
    | zero =>
      rw [List.flatMap_cons, List.getElem?_append_left (by simp [mcCells]; omega)]
      simp [mcOf]
    | succ i =>
      rw [List.flatMap_cons, List.getElem?_append_right (by simp [mcCells]; omega)]
      rw [show (i + 1) * 3 + j - (mcCells a).length = i * 3 + j from by simp [mcCells]; omega, ih i (by simpa using hi)]
      simp [mcOf]
/-- Two slices of different elements do not share a block. -/
theorem rows_ne {base' s s' m : Nat} {v2 : Value} {xs ys : List Value} (h1 : w.ownsRow base E s v n xs) (h2 : w.ownsRow base' EI s' v2 m ys) (hne : E ≠ EI) : ∀ k, v.ownBlock = some k → v2.ownBlock ≠ some k := by
  intro k e1 e2
  rcases h1.2 with ⟨rfl, -⟩ | ⟨g, cap, cur, rfl, -, hg, -⟩
  · simp [Value.ownBlock] at e1
  · simp only [Value.ownBlock, Option.some.injEq] at e1
    subst e1
    exact ownsRow_ne h2 hg hne e2.symm
theorem ownsRow_below_ {s : Nat} {xs : List Value} (h : w.ownsRow base E s v n xs) (hb : Below w.heap.size w w') : w'.ownsRow base E s v n xs := ownsRow_below h hb
theorem OwnM.below (h : OwnM E EI w base v cs) (hb : Below w.heap.size w w') : OwnM E EI w' base v cs := ⟨ownsRow_below h.row hb, fun c hc => (h.nx c hc).below hb, h.apart⟩
theorem OwnM.more (h : OwnM E EI w base v cs) {base' : Nat} (hb : base' ≤ base) : OwnM E EI w base' v cs := ⟨ownsRow_more h.row hb, fun c hc => (h.nx c hc).more hb, h.apart⟩
theorem Own.mcRd (h : Own EI w base c.v c.md.next) : McRd w c := by
  obtain ⟨ao', cap', e, r, h1, h2, -⟩ := h.form
  unfold Mc.v at e
  unfold maxLen at h2
  cases e
  exact ⟨r, h1, by omega⟩
theorem OwnM.form (h : OwnM E EI w base v cs) : ∃ ao cap, v = .slice ao cs.length cap ∧ RdM w ao cs.length cs ∧ cs.length ≤ cap ∧ cap ≤ maxLen ∧ (v = .slice none 0 0 ∨ ∃ g, ao = some ⟨g, 0, none⟩ ∧ base ≤ g ∧ g < w.heap.size) := by
  have hnx : ∀ c ∈ cs, McRd w c := fun c hc => (h.nx c hc).mcRd
  have h0 := h.row
  rcases h.row.2 with ⟨rfl, h2⟩ | ⟨g, cap, cur, rfl, hg, hh, hn, hcap, hsz, htake⟩
  · have : cs = [] := List.length_eq_zero_iff.1 h2
    subst this
    exact ⟨none, 0, rfl, RdM.nil_, Nat.le_refl _, by unfold maxLen; omega, .inl rfl⟩
  · have hc : ∀ i j, i < cs.length → j < 3 → w.cell? ⟨g, 0 + i * 3 + j, none⟩ = (mcCells (mcOf cs i))[j]? := fun i j hi hj => by
      rw [Nat.zero_add, World.ownsRow.cellAt h0 (i * 3 + j) (by omega), flatM_get cs i j hi hj]
    exact ⟨_, cap, rfl, ⟨rfl, fun _ => ⟨g, 0, rfl, fun i hi => ⟨hc i 0 hi (by omega), hc i 1 hi (by omega), hc i 2 hi (by omega)⟩⟩, hnx⟩, hn, hcap, .inr ⟨g, rfl, hg, (Array.getElem?_eq_some_iff.1 hh).1⟩⟩
theorem OwnM.cap {cap : Nat} (h : OwnM E EI w base (.slice ao n cap) cs) : n ≤ cap ∧ cap ≤ 9223372036854775807 := by
  obtain ⟨ao', cap', e, -, h1, h2, -⟩ := h.form
  cases e
  unfold maxLen at h2
  exact ⟨h1, by omega⟩
theorem OwnM.of_alloc_nil (hE : base ≤ w.heap.size) : OwnM E EI (w.alloc (.cells #[] E)) base (.slice (some ⟨w.heap.size, 0, none⟩) 0 0) [] :=
  ⟨World.ownsRow_made w #[] 0 hE (by unfold maxLen; omega) rfl, (fun _ h => by cases h), List.Pairwise.nil⟩
theorem OwnM.nil_ : OwnM E EI w base (.slice none 0 0) [] := ⟨World.ownsRow_nil _ _ _ _, (fun _ h => by cases h), List.Pairwise.nil⟩
theorem OwnM.get (h : OwnM E EI w base v cs) : ∃ ao cap, v = .slice ao cs.length cap ∧ OwnM E EI w base (.slice ao cs.length cap) cs ∧ RdM w ao cs.length cs := by
  obtain ⟨ao, cap, rfl, r, -, -, -⟩ := h.form
  exact ⟨ao, cap, rfl, h, r⟩
theorem OwnM.block (h : OwnM E EI w base v cs) : ∀ k, v.ownBlock = some k → base ≤ k ∧ k < w.heap.size := World.ownsRow.lt h.row
/-- A list in new memory is apart from all lists of a table. -/
theorem OwnM.fresh {w1 : World} (h : OwnM E EI w base v cs) {u : Value} {xs : List Int} (o : Own EI w1 w.heap.size u xs) : ∀ d ∈ cs, ∀ k, d.v.ownBlock = some k → u.ownBlock ≠ some k := by
  intro d hd k e1 e2
  have h1 := ((h.nx d hd).block k e1).2
  have h2 := (o.block k e2).1
  omega
/-- The table's own block changes: the lists stay. -/
theorem OwnM.turned (hne : E ≠ EI) (h : OwnM E EI w base v cs) {g : Option Nat} (hg : w.grownBy w' g) (hv : g = none ∨ g = v.ownBlock) : ∀ c ∈ cs, Own EI w' base c.v c.md.next := by
  intro c hc
  have hne' : EI ≠ E := fun e => hne e.symm
  refine (h.nx c hc).only hg ?_
  rcases hb : c.v.ownBlock with _ | k
  · exact .inl rfl
  · refine .inr (fun e => ?_)
    rcases hv with rfl | rfl
    · cases e
    · exact rows_ne (show w.ownsRow base EI 1 c.v _ _ from h.nx c hc) h.row hne' k hb e.symm
/-- One more entry, appended. -/
theorem OwnM.push (hne : E ≠ EI) {v' : Value} (h : OwnM E EI w base v cs) (hg : w.grownBy w' v.ownBlock) (hr : w'.ownsRow base E 3 v' (cs ++ [c]).length ((cs ++ [c]).flatMap mcCells)) (hc : Own EI w base c.v c.md.next) (ha : ∀ d ∈ cs, ∀ k, d.v.ownBlock = some k → c.v.ownBlock ≠ some k) : OwnM E EI w' base v' (cs ++ [c]) := by
  refine ⟨hr, fun d hd => ?_, ?_⟩
  · rcases List.mem_append.1 hd with hd | hd
    · exact h.turned hne hg (.inr rfl) d hd
    · rw [List.mem_singleton] at hd
      subst hd
      refine hc.only hg ?_
      rcases hb : d.v.ownBlock with _ | k
      · exact .inl rfl
      · exact .inr (fun e => rows_ne (show w.ownsRow base EI 1 d.v _ _ from hc) h.row (fun e => hne e.symm) k hb e.symm)
  · rw [List.pairwise_append]
    refine ⟨h.apart, List.pairwise_singleton _ _, fun p hp q hq k e => ?_⟩
    rw [List.mem_singleton] at hq
    subst hq
    exact ha p hp k e
/-- The three stores of an entry. -/
def setMc (w : World) (b off : Nat) (c : Mc) : World := ((w.setCell ⟨b, off, none⟩ (.int .i64 c.md.rounds)).setCell ⟨b, off + 1, none⟩ (.int .i64 c.md.slots)).setCell ⟨b, off + 2, none⟩ (.slice c.ao c.md.next.length c.cap)
theorem below_mc {B b off : Nat} {w : World} (hb : B ≤ b) (c : Mc) : Below B w (setMc w b off c) := (((Below.refl _ _).setCell hb _).setCell hb _).setCell hb _
theorem McAt.set0 (h : McAt T w b c) (z : Int) : McAt T (w.setCell ⟨b, 0, none⟩ (.int .i64 z)) b ⟨⟨z, c.md.slots, c.md.next⟩, c.ao, c.cap⟩ := by
  have := heap_setCell_same w b 0 _ _ (.int .i64 z) h
  simpa [McAt] using this
theorem McAt.set1 (h : McAt T w b c) (z : Int) : McAt T (w.setCell ⟨b, 1, none⟩ (.int .i64 z)) b ⟨⟨c.md.rounds, z, c.md.next⟩, c.ao, c.cap⟩ := by
  have := heap_setCell_same w b 1 _ _ (.int .i64 z) h
  simpa [McAt] using this
theorem McAt.set2 (h : McAt T w b c) (xs : List Int) (ao : Option Addr) (cap : Nat) : McAt T (w.setCell ⟨b, 2, none⟩ (.slice ao xs.length cap)) b ⟨⟨c.md.rounds, c.md.slots, xs⟩, ao, cap⟩ := by
  have := heap_setCell_same w b 2 _ _ (.slice ao xs.length cap) h
  simpa [McAt] using this
theorem McAt.put {d : Mc} (h : McAt T w b c) : McAt T (setMc w b 0 d) b d := ((h.set0 d.md.rounds).set1 d.md.slots).set2 d.md.next d.ao d.cap
theorem McAt.other {d : Mc} {b' : Nat} (h : McAt T w b c) (hne : b ≠ b') : McAt T (setMc w b' off d) b c :=
  (heap_setCell_other _ _ _ _ hne).trans ((heap_setCell_other _ _ _ _ hne).trans ((heap_setCell_other _ _ _ _ hne).trans h))
end

theorem grown_set' (w : World) (g j : Nat) (v : Value) : w.grownBy (w.setCell ⟨g, j, none⟩ v) (some g) := ⟨rfl, rfl, rfl, by simp [World.setCell], fun k _ hne => heap_setCell_other _ _ _ _ (fun e => hne (by rw [e]))⟩
/-! ### an entry's field written; an entry stored -/
theorem mcOf_set {cs : List Mc} {k : Nat} (h : k < cs.length) (y : Mc) : mcOf (cs.set k y) k = y := by simp [mcOf, List.getD, h]
theorem flatM_set : ∀ (cs : List Mc) (k : Nat), k < cs.length → ∀ (j : Nat) (u : Value) (y : Mc), mcCells y = (mcCells (mcOf cs k)).set j u → j < 3 → (cs.flatMap mcCells).set (k * 3 + j) u = (cs.set k y).flatMap mcCells
  | [], _, h, _, _, _, _, _ => by simp at h
  | a :: r, 0, _, j, u, y, e, hj => by
    have e2 : mcOf (a :: r) 0 = a := by simp [mcOf]
    rw [e2] at e
    rw [List.set_cons_zero, List.flatMap_cons, List.flatMap_cons, e, Nat.zero_mul, Nat.zero_add]
    rw [List.set_append_left _ _ (by simp [mcCells]; omega)]
  | a :: r, k + 1, h, j, u, y, e, hj => by
    have e2 : mcOf (a :: r) (k + 1) = mcOf r k := by simp [mcOf]
    rw [e2] at e
    rw [List.set_cons_succ, List.flatMap_cons, List.flatMap_cons, List.set_append_right _ _ (by simp [mcCells]; omega)]
    rw [show (k + 1) * 3 + j - (mcCells a).length = k * 3 + j from by simp [mcCells]; omega, flatM_set r k (by simpa using h) j u y e hj]
section
variable {E EI : Nat} {w : World} {base g n cap : Nat} {cs : List Mc}
theorem rowM_field (ho : w.ownsRow base E 3 (.slice (some ⟨g, 0, none⟩) n cap) n (cs.flatMap mcCells)) (hl : cs.length = n) {k : Nat} (hk : k < n) {j : Nat} (hj : j < 3) {u : Value} {y : Mc} (e : mcCells y = (mcCells (mcOf cs k)).set j u) :
    w.frozen? ⟨g, k * 3 + j, none⟩ = false ∧ (w.setCell ⟨g, k * 3 + j, none⟩ u).ownsRow base E 3 (.slice (some ⟨g, 0, none⟩) n cap) n ((cs.set k y).flatMap mcCells) := by
  refine ⟨World.ownsRow.frozenAt ho _, ?_⟩
  have h := (World.ownsRow.stored ho (k * 3 + j) u).1
  rw [flatM_set cs k (by omega) j u y e hj] at h
  exact h
theorem rowM_in (ho : w.ownsRow base E 3 (.slice (some ⟨g, 0, none⟩) n cap) n (cs.flatMap mcCells)) (hl : cs.length = n) {k : Nat} (hk : k < n) : McIn w g (k * 3) (mcOf cs k) := by
  have hc : ∀ j, j < 3 → w.cell? ⟨g, k * 3 + j, none⟩ = (mcCells (mcOf cs k))[j]? := fun j hj => by
    rw [World.ownsRow.cellAt ho (k * 3 + j) (by omega), flatM_get cs k j (by omega) hj]
  exact ⟨hc 0 (by omega), hc 1 (by omega), hc 2 (by omega)⟩
/-- A whole entry stored into the row. -/
theorem rowM_store (ho : w.ownsRow base E 3 (.slice (some ⟨g, 0, none⟩) n cap) n (cs.flatMap mcCells)) (hl : cs.length = n) {k : Nat} (hk : k < n) (x : Mc) :
    McIn w g (k * 3) (mcOf cs k) ∧ (w.frozen? ⟨g, k * 3, none⟩ = false ∧ w.frozen? ⟨g, k * 3 + 1, none⟩ = false ∧ w.frozen? ⟨g, k * 3 + 2, none⟩ = false) ∧
      (setMc w g (k * 3) x).ownsRow base E 3 (.slice (some ⟨g, 0, none⟩) n cap) n ((cs.set k x).flatMap mcCells) ∧ w.grownBy (setMc w g (k * 3) x) (some g) := by
  have hin := rowM_in ho hl hk
  have hkt : k < cs.length := by omega
  generalize hz : mcOf cs k = z at hin ⊢
  obtain ⟨f0, o0⟩ := rowM_field (j := 0) (u := .int .i64 x.md.rounds) (y := ⟨⟨x.md.rounds, z.md.slots, z.md.next⟩, z.ao, z.cap⟩) ho hl hk (by omega) (by rw [hz]; rfl)
  obtain ⟨f1, -⟩ := rowM_field (j := 1) (u := .int .i64 x.md.slots) (y := ⟨⟨z.md.rounds, x.md.slots, z.md.next⟩, z.ao, z.cap⟩) ho hl hk (by omega) (by rw [hz]; rfl)
  obtain ⟨f2, -⟩ := rowM_field (j := 2) (u := .slice x.ao x.md.next.length x.cap) (y := ⟨⟨z.md.rounds, z.md.slots, x.md.next⟩, x.ao, x.cap⟩) ho hl hk (by omega) (by rw [hz]; rfl)
  obtain ⟨-, o1⟩ := rowM_field (j := 1) (u := .int .i64 x.md.slots) (y := ⟨⟨x.md.rounds, x.md.slots, z.md.next⟩, z.ao, z.cap⟩) o0 (by rw [List.length_set]; exact hl) hk (by omega) (by rw [mcOf_set hkt]; rfl)
  rw [List.set_set] at o1
  obtain ⟨-, o2⟩ := rowM_field (j := 2) (u := .slice x.ao x.md.next.length x.cap) (y := x) o1 (by rw [List.length_set]; exact hl) hk (by omega) (by rw [mcOf_set hkt]; rfl)
  rw [List.set_set] at o2
  refine ⟨hin, ⟨f0, f1, f2⟩, o2, ?_⟩
  have gs : ∀ (w : World) (j : Nat) (v : Value), w.grownBy (w.setCell ⟨g, j, none⟩ v) (some g) := fun w j v => ⟨rfl, rfl, rfl, by simp [World.setCell], fun k _ hne => heap_setCell_other _ _ _ _ (fun e => hne (by rw [e]))⟩
  exact grown_trans (grown_trans (gs w _ _) (gs _ _ _)) (gs _ _ _)
/-- A whole entry whose list is in new memory, stored into a table of the call's own. -/
theorem OwnM.store (hne : E ≠ EI) (ho : OwnM E EI w base (.slice (some ⟨g, 0, none⟩) n cap) cs) (hl : cs.length = n) {k : Nat} (hk : k < n) (x : Mc) (hx : Own EI w base x.v x.md.next) (ha : ∀ d ∈ cs, ∀ k, d.v.ownBlock = some k → x.v.ownBlock ≠ some k) :
    McIn w g (k * 3) (mcOf cs k) ∧ (w.frozen? ⟨g, k * 3, none⟩ = false ∧ w.frozen? ⟨g, k * 3 + 1, none⟩ = false ∧ w.frozen? ⟨g, k * 3 + 2, none⟩ = false) ∧
      OwnM E EI (setMc w g (k * 3) x) base (.slice (some ⟨g, 0, none⟩) n cap) (cs.set k x) ∧ Below base w (setMc w g (k * 3) x) := by
  have hr := ho.row
  rw [hl] at hr
  obtain ⟨h1, h2, h3, h4⟩ := rowM_store hr hl hk x
  refine ⟨h1, h2, ⟨by rw [List.length_set, hl]; exact h3, fun d hd => ?_, ?_⟩, below_mc (ho.block g rfl).1 x⟩
  · rcases List.mem_or_eq_of_mem_set hd with hd | rfl
    · exact ho.turned hne h4 (.inr rfl) d hd
    · refine hx.only h4 ?_
      rcases hb : d.v.ownBlock with _ | j
      · exact .inl rfl
      · exact .inr (fun e => rows_ne (show w.ownsRow base EI 1 d.v _ _ from hx) ho.row (fun e => hne e.symm) j hb (by rw [e]; rfl))
  · rw [List.pairwise_iff_getElem]
    intro i j hi hj hij b e
    have hp := List.pairwise_iff_getElem.1 ho.apart
    rw [List.length_set] at hi hj
    rw [List.getElem_set] at e ⊢
    split at e
    · rename_i e1
      rw [if_neg (by omega)]
      exact fun e2 => ha _ (List.getElem_mem hj) b e2 e
    · split
      · exact ha _ (List.getElem_mem hi) b e
      · exact hp i j hi hj hij b e
end

/-- A slice of the call's own that reads as the table t. -/
def OwnMs (E EI : Nat) (w : World) (base : Nat) (v : Value) (t : List Md) : Prop := ∃ cs, mds cs = t ∧ OwnM E EI w base v cs
theorem OwnM.old {w w' : World} {E EI base b : Nat} {v : Value} {cs : List Mc} (h : OwnM E EI w base v cs) (hg : w.grownBy w' (some b)) (hb : b < base) : OwnM E EI w' base v cs := by
  have hk : ∀ u : Value, (∀ k, u.ownBlock = some k → base ≤ k) → u.ownBlock = none ∨ u.ownBlock ≠ some b := fun u hu => by
    rcases e : u.ownBlock with _ | k
    · exact .inl rfl
    · refine .inr (fun e2 => ?_)
      have := hu k e
      cases e2
      omega
  exact ⟨World.ownsRow.kept h.row hg (hk v (fun k e => (h.block k e).1)), fun c hc => (h.nx c hc).only hg (hk c.v (fun k e => ((h.nx c hc).block k e).1)), h.apart⟩
theorem OwnMs.old {w w' : World} {E EI base b : Nat} {v : Value} {t : List Md} (h : OwnMs E EI w base v t) (hg : w.grownBy w' (some b)) (hb : b < base) : OwnMs E EI w' base v t := by
  obtain ⟨cs, h1, h2⟩ := h
  exact ⟨cs, h1, h2.old hg hb⟩
theorem OwnMs.below {w w' : World} {E EI base : Nat} {v : Value} {t : List Md} (h : OwnMs E EI w base v t) (hb : Below w.heap.size w w') : OwnMs E EI w' base v t := by
  obtain ⟨cs, h1, h2⟩ := h
  exact ⟨cs, h1, h2.below hb⟩
theorem OwnMs.more {w : World} {E EI base base' : Nat} {v : Value} {t : List Md} (h : OwnMs E EI w base v t) (hb : base' ≤ base) : OwnMs E EI w base' v t := by
  obtain ⟨cs, h1, h2⟩ := h
  exact ⟨cs, h1, h2.more hb⟩
theorem OwnMs.nil_ {w : World} {E EI base : Nat} : OwnMs E EI w base (.slice none 0 0) [] := ⟨[], rfl, OwnM.nil_⟩
/-- What a call leaves that makes one table; and a number or two beside it. -/
def MakesM (E EI : Nat) (w : World) (t : List Md) (e : Ending) (w' : World) : Prop :=
  ∃ v, e = .returned v ∧ OwnMs E EI w' w.heap.size v t ∧ Below w.heap.size w w'
def MakesM3 (E EI : Nat) (w : World) (t : List Md) (c d : Int) (e : Ending) (w' : World) : Prop :=
  ∃ v, e = .returned (.tuple #[v, .int .i64 c, .int .i64 d]) ∧ OwnMs E EI w' w.heap.size v t ∧ Below w.heap.size w w'
section
variable {w w' : World} {E EI : Nat} {t : List Md} {e : Ending} {c d : Int}
theorem MakesM.get (h : MakesM E EI w t e w') : ∃ ao cap cs, mds cs = t ∧ e = .returned (.slice ao cs.length cap) ∧ OwnM E EI w' w.heap.size (.slice ao cs.length cap) cs ∧ RdM w' ao cs.length cs ∧ Below w.heap.size w w' := by
  obtain ⟨v, rfl, ⟨cs, h1, o⟩, b⟩ := h
  obtain ⟨ao, cap, rfl, o, r⟩ := o.get
  exact ⟨ao, cap, cs, h1, rfl, o, r, b⟩
theorem MakesM3.get (h : MakesM3 E EI w t c d e w') : ∃ ao cap cs, mds cs = t ∧ e = .returned (.tuple #[.slice ao cs.length cap, .int .i64 c, .int .i64 d]) ∧ OwnM E EI w' w.heap.size (.slice ao cs.length cap) cs ∧ RdM w' ao cs.length cs ∧ Below w.heap.size w w' := by
  obtain ⟨v, rfl, ⟨cs, h1, o⟩, b⟩ := h
  obtain ⟨ao, cap, rfl, o, r⟩ := o.get
  exact ⟨ao, cap, cs, h1, rfl, o, r, b⟩
end

/-! ### made, appended to -/
/-- The row of the program's table for an entry. -/
abbrev InfoMd (P : Program) (E : Nat) : Prop := (P.info? E).map (fun i => (i.zero, i.size, i.bytes)) = some (some (mcVal Mc.zero), 3, 40)
theorem info_parts_m {P : Program} {E : Nat} (h : InfoMd P E) : ∃ i, P.info? E = some i ∧ i.zero = some (mcVal Mc.zero) ∧ i.size = 3 ∧ i.bytes = 40 := by
  unfold InfoMd at h
  cases hi : P.info? E with
  | none => rw [hi] at h; cases h
  | some i =>
    rw [hi] at h
    simp only [Option.map_some, Option.some.injEq, Prod.mk.injEq] at h
    exact ⟨i, rfl, h.1, h.2.1, h.2.2⟩
theorem cells_zero_m : (mcVal Mc.zero).cells = #[.int .i64 0, .int .i64 0, .slice none 0 0] := rfl
theorem madeM (n : Nat) : (madeCells (mcVal Mc.zero).cells (n * 3)).toList = (List.replicate n Mc.zero).flatMap mcCells := by
  apply List.ext_getElem?
  intro i
  by_cases h : i < n * 3
  · have hi : i = (i / 3) * 3 + i % 3 := by omega
    have h4 : i % 3 < 3 := by omega
    conv => rhs; rw [hi]
    rw [flatM_get _ _ _ (by rw [List.length_replicate]; omega) h4]
    have hz : mcOf (List.replicate n Mc.zero) (i / 3) = Mc.zero := by
      rw [mcOf_get (by rw [List.length_replicate]; omega), List.getElem_replicate]
    rw [hz, cells_zero_m]
    unfold madeCells
    rw [Array.toList_map, List.getElem?_map, Array.toList_range, List.getElem?_range h]
    simp only [Option.map_some]
    have h5 : #[Value.int .i64 0, .int .i64 0, .slice none 0 0].size = 3 := rfl
    rw [h5]
    generalize i % 3 = j at h4
    match j, h4 with
    | 0, _ => rfl
    | 1, _ => rfl
    | 2, _ => rfl
  · rw [List.getElem?_eq_none (by rw [Array.length_toList, size_madeCells]; omega), List.getElem?_eq_none (by rw [flatM_len, List.length_replicate]; omega)]
section
variable {P : Program} {E EI T : Nat} (w : World) {ops : Array Oper} {rest : List Oper} {o : Oper} {a : Act} {Q : Exit → Act → World → Prop} {K : Act → World → Prop}
/-- 'make([]ModeInfo, n)'. -/
theorem make_md (hg : o.guard = none) (l c : Operand) (hop : o.op = Op.makeSlice T l c) (base : Nat) (ht : P.underlying T = some (.slice E)) (hi : InfoMd P E)
    (kl kc : IntKind) (L C : Int) (n : Nat) (hl : a.eval l = .int kl L) (hc : a.eval c = .int kc C) (hL : L = (n : Int)) (hC : C = (n : Int)) (hm : n ≤ 4294967296) (hb : base ≤ w.heap.size)
    (hK : ∀ w', OwnM E EI w' base (.slice (some ⟨w.heap.size, 0, none⟩) n n) (List.replicate n Mc.zero) → Below base w w' → wpList P ops Q rest (a.put o.dst (.slice (some ⟨w.heap.size, 0, none⟩) n n)) w') :
    wpList P ops Q (o :: rest) a w := by
  obtain ⟨i0, hi, hz0, hz1, hz2⟩ := info_parts_m hi
  refine wpList_make_full w hg l c T hop base E i0 (mcVal Mc.zero) 3 ht hi hz0 hz1 kl kc L C n hl hc hL hC (by rw [hz2]; omega) (by unfold maxLen; omega) hb ?_
  intro w' h1 h2
  refine hK w' ⟨?_, fun c hc => ?_, ?_⟩ ((Below.refl _ _).grown h2 hb (fun k h => by cases h))
  · rw [List.length_replicate, ← madeM]
    exact h1
  · rw [List.eq_of_mem_replicate hc]
    exact Own.nil_
  · rw [List.pairwise_iff_getElem]
    intro i j hi hj hij b e
    rw [List.getElem_replicate] at e
    cases e
/-- 'append(out, x)' of one entry whose list is in memory of its own, the operation by itself. -/
theorem appM_op (hne : E ≠ EI) (s x : Operand) (ho : o.op = .call { callee := .builtin .append, args := #[s, x], argTypes := #[T, T] })
    (base : Nat) (ht : P.underlying T = some (.slice E)) (hi : InfoMd P E)
    (v : Value) (cs : List Mc) (hs : a.eval s = v) (hown : OwnM E EI w base v cs) (b : Nat) (y : Mc) (c : Nat) (hx : a.eval x = .slice (some ⟨b, 0, none⟩) 1 c) (hc : McIn w b 0 y)
    (hy : Own EI w base y.v y.md.next) (ha : ∀ d ∈ cs, ∀ k, d.v.ownBlock = some k → y.v.ownBlock ≠ some k)
    (hlen : cs.length ≤ 1048576) (hbase : base ≤ w.heap.size)
    (h : ∀ v' w', OwnM E EI w' base v' (cs ++ [y]) → w.grownBy w' v.ownBlock → K (a.put o.dst v') w') : o.wp P a w K Q := by
  obtain ⟨i0, hi, hz0, hz1, hz2⟩ := info_parts_m hi
  refine wp_append_own w s x T ho base E i0 (mcVal Mc.zero) 3 40 ht hi hz0 hz1 hz2 rfl (by decide) v cs.length (cs.flatMap mcCells) hs hown.row ⟨b, 0, none⟩ 1 c (mcCells y) hx rfl ?_ ?_ (by unfold maxLen; omega) (by omega) hbase ?_
  · intro j u hj
    match j, hj with
    | 0, hj => simp [mcCells] at hj; subst hj; simpa [Addr.add] using hc.c0
    | 1, hj => simp [mcCells] at hj; subst hj; simpa [Addr.add] using hc.c1
    | 2, hj => simp [mcCells] at hj; subst hj; simpa [Addr.add] using hc.c2
    | j + 3, hj => simp [mcCells] at hj
  · intro u hu; simp [mcCells] at hu; rcases hu with rfl | rfl | rfl <;> rfl
  · intro v' w' h1 h2 _
    refine h v' w' (hown.push hne h2 ?_ hy ha) h2
    rw [List.length_append, List.flatMap_append]
    simpa using h1
end

/-! ### a table among several slices of the call's own -/
def mrow (E : Nat) (v : Value) (cs : List Mc) : It := ⟨v, E, 3, cs.length, cs.flatMap mcCells⟩
def nxs (EI : Nat) (cs : List Mc) : List It := cs.map fun c => ints EI c.v c.md.next
def mis (E EI : Nat) (v : Value) (cs : List Mc) : List It := mrow E v cs :: nxs EI cs
section
variable {w0 w w' : World} {L : List It} {E EI : Nat} {v : Value} {cs : List Mc}
theorem Hold.makeL (h : Hold w0 w L) (L1 : List It) (o : ∀ p ∈ L1, w'.ownsRow w.heap.size p.E p.sz p.v p.n p.cells) (ap : L1.Pairwise fun p q => ∀ k, p.v.ownBlock = some k → q.v.ownBlock ≠ some k) (b : Below w.heap.size w w') : Hold w0 w' (L1 ++ L) := by
  refine ⟨below_two h.below b, fun q hq => ?_, ?_⟩
  · rcases List.mem_append.1 hq with hq | hq
    · exact ownsRow_more (o q hq) h.below.size
    · exact ownsRow_below (h.own q hq) b
  · rw [List.pairwise_append]
    refine ⟨ap, h.apart, fun p hp q hq k hk e => ?_⟩
    have h1 := (World.ownsRow.lt (o p hp) k hk).1
    have h2 := (World.ownsRow.lt (h.own q hq) k e).2
    omega
theorem OwnM.items (hne : E ≠ EI) {base : Nat} (h : OwnM E EI w base v cs) : (∀ p ∈ mis E EI v cs, w.ownsRow base p.E p.sz p.v p.n p.cells) ∧ (mis E EI v cs).Pairwise fun p q => ∀ k, p.v.ownBlock = some k → q.v.ownBlock ≠ some k := by
  refine ⟨fun p hp => ?_, ?_⟩
  · rcases List.mem_cons.1 hp with rfl | hp
    · exact h.row
    · obtain ⟨c, hc, rfl⟩ := List.mem_map.1 hp
      exact h.nx c hc
  · refine List.Pairwise.cons (fun p hp k e1 e2 => ?_) ?_
    · obtain ⟨c, hc, rfl⟩ := List.mem_map.1 hp
      exact rows_ne h.row (h.nx c hc) hne k e1 e2
    · exact List.Pairwise.map _ (fun p q h => h) h.apart
theorem Hold.makeM (hne : E ≠ EI) (h : Hold w0 w L) (o : OwnM E EI w' w.heap.size v cs) (b : Below w.heap.size w w') : Hold w0 w' (mis E EI v cs ++ L) :=
  h.makeL _ (o.items hne).1 (o.items hne).2 b
theorem Hold.getM {L1 L2 : List It} (h : Hold w0 w (L1 ++ (mis E EI v cs ++ L2))) : OwnM E EI w w0.heap.size v cs := by
  refine ⟨h.own (mrow E v cs) (by simp [mis]), fun c hc => h.own (ints EI c.v c.md.next) ?_, ?_⟩
  · simp only [List.mem_append]
    exact .inr (.inl (List.mem_cons_of_mem _ (List.mem_map_of_mem hc)))
  · have h1 := (List.pairwise_append.1 (List.pairwise_append.1 h.apart).2.1).1
    have h2 := (List.pairwise_cons.1 h1).2
    unfold nxs at h2
    rw [List.pairwise_map] at h2
    exact h2
theorem Hold.rdM {L1 L2 : List It} {ao : Option Addr} {n cap : Nat} (h : Hold w0 w (L1 ++ (mis E EI (.slice ao n cap) cs ++ L2))) : RdM w ao cs.length cs := by
  obtain ⟨ao', cap', e, o, r⟩ := h.getM.get
  cases e
  exact r
end
end Go.Proofs.Ytpedlofckbplmaa
