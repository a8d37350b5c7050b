/-
  The plain functions of chapter 11, and what its laws say of them. No program is named here.
-/
import Derived.Test.YtpedlofckbplmaaBase
import Derived.Test.YtpedlofckbplmaaSt
namespace Go.Proofs.Ytpedlofckbplmaa

/-- A mode: its rounds, its slots, the modes to which it may be changed. -/
structure Md where
  rounds : Int
  slots : Int
  next : List Int
def Md.zero : Md := ⟨0, 0, []⟩
def mdOf (t : List Md) (i : Nat) : Md := t.getD i Md.zero
def isMd (n i : Nat) (x : Md) : Bool := inRange 1 8 x.rounds && (inRange 1 16 x.slots && (rises (n : Int) x.next && !decide ((i : Int) ∈ x.next)))
def isModes (t : List Md) : Bool := (decide (1 ≤ t.length) && decide (t.length ≤ 16)) && (List.range t.length).all fun i => isMd t.length i (mdOf t i)
def mdBytes (x : Md) : List Int := [x.rounds, x.slots, (x.next.length : Int)] ++ x.next
def modeBytes (t : List Md) : List Int := [(t.length : Int)] ++ t.flatMap mdBytes
def modeTableBytes (t : List Md) : List Int × Int := if isModes t = true then (modeBytes t, 0) else ([], 1)
/-- The entry that lies at a place, and the place behind it. -/
def mdAt (xs : List Int) (a : Nat) : Option (Md × Nat) :=
  if a + 3 ≤ xs.length ∧ a + 3 + (xs.getD (a + 2) 0).toNat ≤ xs.length then
    some (⟨xs.getD a 0, xs.getD (a + 1) 0, (xs.drop (a + 3)).take (xs.getD (a + 2) 0).toNat⟩, a + 3 + (xs.getD (a + 2) 0).toNat)
  else none
/-- The first k entries, and the place behind them. -/
def mdsTo (xs : List Int) : Nat → Option (List Md × Nat)
  | 0 => some ([], 1)
  | k + 1 => (mdsTo xs k).bind fun p => (mdAt xs p.2).map fun q => (p.1 ++ [q.1], q.2)
def readModes (xs : List Int) : Option (List Md × Nat) :=
  if xs.length = 0 then none else (mdsTo xs (xs.getD 0 0).toNat).bind fun p => if isModes p.1 = true then some p else none
def readModeTable (xs : List Int) : List Md × Int × Int :=
  if isBytes xs = false then ([], 0, 2) else match readModes xs with
    | none => ([], 0, 6)
    | some p => (p.1, (p.2 : Int), 0)
/-- Whether a number is a mode. -/
def isMode (t : List Md) (m : Int) : Bool := inRange 0 ((t.length : Int) - 1) m
def mayChange (t : List Md) (a b : Int) : Bool := isModes t && (isMode t a && decide (b ∈ (mdOf t a.toNat).next))
def near (t : List Md) (D : Nat → Int) (d : Int) (i : Nat) : Bool := (mdOf t i).next.any fun j => decide (D j.toNat = d)
/-- The distances to a mode as far as d passes find them. -/
def distTo (t : List Md) (to : Nat) : Nat → Nat → Int
  | 0, i => if i = to then 0 else -1
  | d + 1, i => if distTo t to d i < 0 ∧ near t (distTo t to d) d i = true then (d : Int) + 1 else distTo t to d i
def dist (t : List Md) (to i : Nat) : Int := distTo t to t.length i
def reachOf (t : List Md) (a : Nat) : List Int := List.map (fun b : Nat => (b : Int)) ((List.range t.length).filter fun b => decide (0 ≤ dist t b a))
def reachableModes (t : List Md) (a : Int) : List Int × Int :=
  if isModes t = false then ([], 1) else if isMode t a = false then ([], 2) else (reachOf t a.toNat, 0)
/-- The first of the next modes whose distance is n. -/
def stepTo (t : List Md) (to : Nat) (n : Int) (a : Nat) : Nat := (((mdOf t a).next.find? fun j => decide (dist t to j.toNat = n)).getD 0).toNat
/-- The mode behind k changes of the way, whose length is n. -/
def atK (t : List Md) (to n a : Nat) : Nat → Nat
  | 0 => a
  | k + 1 => stepTo t to ((n : Int) - ((k : Int) + 1)) (atK t to n a k)
/-- The way as far as k changes. -/
def pathTo (t : List Md) (to n a k : Nat) : List Int := (List.range (k + 1)).map fun i : Nat => ((atK t to n a i : Nat) : Int)
def modePath (t : List Md) (a b : Int) : List Int × Int :=
  if isModes t = false then ([], 1) else if (isMode t a && isMode t b) = false then ([], 2) else
    if dist t b.toNat a.toNat < 0 then ([], 4) else (pathTo t b.toNat (dist t b.toNat a.toNat).toNat a.toNat (dist t b.toNat a.toNat).toNat, 0)
def cycleSlots (t : List Md) (m : Int) : Int × Int :=
  if isModes t = false then (0, 1) else if isMode t m = false then (0, 2) else ((mdOf t m.toNat).rounds * (mdOf t m.toNat).slots, 0)

/-! ### tables -/
theorem inR11 {lo hi x : Int} : inRange lo hi x = true ↔ lo ≤ x ∧ x ≤ hi := by simp [inRange]
theorem mdOf_get {t : List Md} {i : Nat} (h : i < t.length) : mdOf t i = t[i] := by simp [mdOf, List.getD, List.getElem?_eq_getElem h]
theorem mdOf_mem {t : List Md} {i : Nat} (h : i < t.length) : mdOf t i ∈ t := by rw [mdOf_get h]; exact List.getElem_mem h
theorem mdOf_out {t : List Md} {i : Nat} (h : ¬ i < t.length) : mdOf t i = Md.zero := by simp [mdOf, List.getD, List.getElem?_eq_none (Nat.not_lt.1 h)]
theorem mem_mdOf {t : List Md} {x : Md} (h : x ∈ t) : ∃ i, i < t.length ∧ mdOf t i = x := by
  obtain ⟨i, hi, e⟩ := List.getElem_of_mem h
  exact ⟨i, hi, by rw [mdOf_get hi]; exact e⟩
theorem isModes_iff {t : List Md} : isModes t = true ↔ (1 ≤ t.length ∧ t.length ≤ 16) ∧ ∀ i, i < t.length → isMd t.length i (mdOf t i) = true := by
  simp [isModes, List.all_eq_true]
theorem isMd_iff {n i : Nat} {x : Md} : isMd n i x = true ↔ (1 ≤ x.rounds ∧ x.rounds ≤ 8) ∧ (1 ≤ x.slots ∧ x.slots ≤ 16) ∧ rises (n : Int) x.next = true ∧ (i : Int) ∉ x.next := by
  simp [isMd, inR11]
theorem modes_no {t : List Md} {k : Nat} (hk : k < t.length) (h : isMd t.length k (mdOf t k) = false) : isModes t = false := by
  rw [Bool.eq_false_iff]
  intro hc
  rw [(isModes_iff.1 hc).2 k hk] at h
  cases h
theorem rises_in {n : Int} {xs : List Int} (h : rises n xs = true) : ∀ x ∈ xs, 0 ≤ x ∧ x < n := by
  intro x hx
  obtain ⟨i, hi, e⟩ := List.getElem_of_mem hx
  have h1 := rises_iff.1 h i hi
  have h3 : -1 ≤ prev xs i := prev_low fun j hj => rises_iff.1 h j (by omega)
  have e2 : xs.getD i 0 = x := by rw [← e]; simp [List.getD, List.getElem?_eq_getElem hi]
  unfold stepOk at h1
  rw [e2] at h1
  omega
/-- The modes to which a mode of a table may be changed are modes. -/
theorem next_in {t : List Md} (h : isModes t = true) (i : Nat) : ∀ j ∈ (mdOf t i).next, 0 ≤ j ∧ j < t.length := by
  by_cases hi : i < t.length
  · exact rises_in (isMd_iff.1 ((isModes_iff.1 h).2 i hi)).2.2.1
  · rw [mdOf_out hi]; intro j hj; cases hj
theorem next_not {t : List Md} (h : isModes t = true) (i : Nat) : (i : Int) ∉ (mdOf t i).next := by
  by_cases hi : i < t.length
  · exact (isMd_iff.1 ((isModes_iff.1 h).2 i hi)).2.2.2
  · rw [mdOf_out hi]; intro hj; cases hj
theorem isMode_iff {t : List Md} {m : Int} : isMode t m = true ↔ 0 ≤ m ∧ m < t.length := by
  unfold isMode; rw [inR11]; omega

/-! ### bytes -/
theorem mdBytes_len (x : Md) : (mdBytes x).length = 3 + x.next.length := by simp [mdBytes]; omega
theorem modes_md {t : List Md} (h : isModes t = true) {x : Md} (hx : x ∈ t) : (1 ≤ x.rounds ∧ x.rounds ≤ 8) ∧ (1 ≤ x.slots ∧ x.slots ≤ 16) ∧ rises (t.length : Int) x.next = true := by
  obtain ⟨i, hi, rfl⟩ := mem_mdOf hx
  have := isMd_iff.1 ((isModes_iff.1 h).2 i hi)
  exact ⟨this.1, this.2.1, this.2.2.1⟩
/-- A strictly increasing list of numbers below n has at most n elements. -/
theorem rises_getD {n : Int} {xs : List Int} (h : rises n xs = true) : ∀ i, i < xs.length → (i : Int) ≤ xs.getD i 0
  | 0, hi => by
    have h1 := (rises_iff.1 h 0 hi).1
    rw [prev_zero] at h1
    omega
  | i + 1, hi => by
    have ih := rises_getD h i (by omega)
    have h1 := (rises_iff.1 h (i + 1) hi).1
    rw [prev_succ] at h1
    omega
theorem rises_len {n : Nat} {xs : List Int} (h : rises (n : Int) xs = true) : xs.length ≤ n := by
  rcases Nat.eq_zero_or_pos xs.length with h0 | h0
  · omega
  · have h1 := rises_getD h (xs.length - 1) (by omega)
    have h2 := (rises_iff.1 h (xs.length - 1) (by omega)).2
    omega
theorem md_flat_le (f : Md → List Int) (L : Nat) : ∀ t : List Md, (∀ x ∈ t, (f x).length ≤ L) → (t.flatMap f).length ≤ L * t.length
  | [], _ => by simp
  | x :: r, h => by
    have h1 := md_flat_le f L r (fun y hy => h y (by simp [hy]))
    have h2 := h x (by simp)
    rw [List.flatMap_cons, List.length_append, List.length_cons, Nat.mul_succ]
    omega
theorem modeBytes_len {t : List Md} (h : isModes t = true) : (modeBytes t).length ≤ 305 := by
  have h2 := (isModes_iff.1 h).1
  have h1 := md_flat_le mdBytes 19 t (fun x hx => by
    have := rises_len (modes_md h hx).2.2
    rw [mdBytes_len]; omega)
  unfold modeBytes
  rw [List.length_append, List.length_singleton]
  omega
theorem mdBytes_in {t : List Md} (h : isModes t = true) {x : Md} (hx : x ∈ t) : ∀ y ∈ mdBytes x, 0 ≤ y ∧ y ≤ 255 := by
  intro y hy
  have h1 := modes_md h hx
  have h2 := (isModes_iff.1 h).1
  have h3 := rises_len h1.2.2
  unfold mdBytes at hy
  rcases List.mem_append.1 hy with hy | hy
  · simp only [List.mem_cons, List.not_mem_nil, or_false] at hy
    omega
  · have := rises_in h1.2.2 y hy
    omega
theorem modeBytes_in {t : List Md} (h : isModes t = true) : ∀ y ∈ modeBytes t, 0 ≤ y ∧ y ≤ 255 := by
  intro y hy
  unfold modeBytes at hy
  rcases List.mem_append.1 hy with hy | hy
  · rw [List.mem_singleton] at hy
    have := (isModes_iff.1 h).1
    omega
  · obtain ⟨x, hx, hy⟩ := List.mem_flatMap.1 hy
    exact mdBytes_in h hx y hy
theorem modes_two {t : List Md} (h : isModes t = true) (zs : List Int) (hz : ∀ z ∈ zs, 0 ≤ z ∧ z ≤ 255) (hl : zs.length ≤ 600) : isBytes (modeBytes t ++ zs) = true := by
  have h1 := modeBytes_len h
  refine isBytes_iff.2 ⟨by rw [List.length_append]; omega, fun x hx => ?_⟩
  rcases List.mem_append.1 hx with hx | hx
  · exact modeBytes_in h x hx
  · exact hz x hx

/-! ### what is read -/
theorem mdAt_here {ps rest : List Int} {x : Md} : mdAt (ps ++ (mdBytes x ++ rest)) ps.length = some (x, ps.length + (mdBytes x).length) := by
  have hg : ∀ j, j < (mdBytes x).length → (ps ++ (mdBytes x ++ rest)).getD (ps.length + j) 0 = (mdBytes x).getD j 0 := fun j hj => by
    simp only [List.getD]
    rw [List.getElem?_append_right (by omega), Nat.add_sub_cancel_left, List.getElem?_append_left hj]
  have hl := mdBytes_len x
  have h0 := hg 0 (by omega)
  have h1 := hg 1 (by omega)
  have h2 := hg 2 (by omega)
  have hd : (ps ++ (mdBytes x ++ rest)).drop (ps.length + 3) = x.next ++ rest := by
    rw [List.drop_append, List.drop_of_length_le (by omega), List.nil_append, Nat.add_sub_cancel_left]
    rfl
  have hsz : (ps ++ (mdBytes x ++ rest)).length = ps.length + (3 + x.next.length) + rest.length := by rw [List.length_append, List.length_append, hl]; omega
  have e0 : (mdBytes x).getD 0 0 = x.rounds := rfl
  have e1 : (mdBytes x).getD 1 0 = x.slots := rfl
  have e2 : (mdBytes x).getD 2 0 = (x.next.length : Int) := rfl
  rw [Nat.add_zero] at h0
  unfold mdAt
  rw [h0, h1, h2, hd, e0, e1, e2, hl, Int.toNat_natCast]
  rw [if_pos ⟨by omega, by omega⟩, List.take_append_of_le_length (Nat.le_refl _), List.take_length, Nat.add_assoc]
theorem mdsTo_flat (ps : List Int) (hp : ps.length = 1) (rest : List Int) (t : List Md) :
    ∀ k, k ≤ t.length → mdsTo (ps ++ (t.flatMap mdBytes ++ rest)) k = some (t.take k, 1 + ((t.take k).flatMap mdBytes).length)
  | 0, _ => by simp [mdsTo]
  | k + 1, hk => by
    have ih := mdsTo_flat ps hp rest t k (by omega)
    have hx : k < t.length := hk
    have hs : t.flatMap mdBytes = (t.take k).flatMap mdBytes ++ (mdBytes t[k] ++ (t.drop (k + 1)).flatMap mdBytes) := by
      conv => lhs; rw [← List.take_append_drop k t, List.drop_eq_getElem_cons hx]
      rw [List.flatMap_append, List.flatMap_cons]
    have hpl : 1 + ((t.take k).flatMap mdBytes).length = (ps ++ (t.take k).flatMap mdBytes).length := by rw [List.length_append, hp]
    have h1 : ps ++ (t.flatMap mdBytes ++ rest) = (ps ++ (t.take k).flatMap mdBytes) ++ (mdBytes t[k] ++ ((t.drop (k + 1)).flatMap mdBytes ++ rest)) := by
      rw [hs]; simp only [List.append_assoc]
    rw [mdsTo, ih, Option.bind_some]
    simp only
    rw [h1, hpl, mdAt_here, Option.map_some]
    rw [show t.take (k + 1) = t.take k ++ [t[k]] from by rw [List.take_append_getElem hx], List.flatMap_append]
    simp only [List.flatMap_cons, List.flatMap_nil, List.append_nil, List.length_append, hp]
    congr 2
    omega
theorem readModes_round {t : List Md} (h : isModes t = true) (rest : List Int) : readModes (modeBytes t ++ rest) = some (t, (modeBytes t).length) := by
  have hn := mdsTo_flat [(t.length : Int)] rfl rest t t.length (Nat.le_refl _)
  have e : modeBytes t ++ rest = [(t.length : Int)] ++ (t.flatMap mdBytes ++ rest) := by unfold modeBytes; rw [List.append_assoc]
  have hl : (modeBytes t).length = 1 + (t.flatMap mdBytes).length := by unfold modeBytes; rw [List.length_append]; rfl
  rw [List.take_length] at hn
  unfold readModes
  rw [if_neg (by rw [List.length_append, hl]; omega)]
  rw [show (modeBytes t ++ rest).getD 0 0 = (t.length : Int) from rfl, Int.toNat_natCast, e, hn, Option.bind_some]
  simp only
  rw [if_pos h, hl]
theorem mdAt_yes {xs : List Int} (hx : ∀ x ∈ xs, 0 ≤ x) {a : Nat} {q : Md × Nat} (h : mdAt xs a = some q) : a + 3 ≤ q.2 ∧ q.2 ≤ xs.length ∧ xs.take q.2 = xs.take a ++ mdBytes q.1 := by
  unfold mdAt at h
  split at h
  · rename_i hc
    cases h
    have h3 : 0 ≤ xs.getD (a + 2) 0 := by
      rw [List.getD_eq_getElem?_getD, List.getElem?_eq_getElem (by omega)]
      exact hx _ (List.getElem_mem _)
    refine ⟨by simp only; omega, hc.2, ?_⟩
    simp only
    generalize hn : (xs.getD (a + 2) 0).toNat = n at hc ⊢
    have hlen : ((xs.drop (a + 3)).take n).length = n := by rw [List.length_take, List.length_drop]; omega
    have e2 : xs.getD (a + 2) 0 = (n : Int) := by omega
    have hd : xs.drop a = xs.getD a 0 :: xs.getD (a + 1) 0 :: xs.getD (a + 2) 0 :: xs.drop (a + 3) := by
      rw [List.drop_eq_getElem_cons (by omega), List.drop_eq_getElem_cons (by omega), List.drop_eq_getElem_cons (by omega)]
      simp [List.getD, List.getElem?_eq_getElem (show a < xs.length by omega), List.getElem?_eq_getElem (show a + 1 < xs.length by omega), List.getElem?_eq_getElem (show a + 2 < xs.length by omega)]
    rw [show a + 3 + n = a + (3 + n) from by omega, List.take_add, hd]
    unfold mdBytes
    simp only
    rw [hlen, e2, show 3 + n = n + 1 + 1 + 1 from by omega]
    simp [List.take_succ_cons]
  · cases h
theorem mdsTo_yes {xs : List Int} (hx : ∀ x ∈ xs, 0 ≤ x) (h0 : 1 ≤ xs.length) : ∀ {k : Nat} {p : List Md × Nat}, mdsTo xs k = some p → p.1.length = k ∧ 1 ≤ p.2 ∧ p.2 ≤ xs.length ∧ xs.take p.2 = [xs.getD 0 0] ++ p.1.flatMap mdBytes
  | 0, p, h => by
    cases h
    refine ⟨rfl, Nat.le_refl _, h0, ?_⟩
    rcases xs with _ | ⟨x, r⟩
    · simp at h0
    · simp
  | k + 1, p, h => by
    rw [mdsTo] at h
    obtain ⟨p0, h1, h2⟩ := Option.bind_eq_some_iff.1 h
    obtain ⟨q, h3, rfl⟩ := Option.map_eq_some_iff.1 h2
    obtain ⟨g1, g2, g3, g4⟩ := mdsTo_yes hx h0 h1
    obtain ⟨k1, k2, k3⟩ := mdAt_yes hx h3
    refine ⟨by simp [g1], by simp only; omega, k2, ?_⟩
    simp only
    rw [k3, g4, List.flatMap_append]
    simp
theorem readModes_yes {xs : List Int} (hx : ∀ x ∈ xs, 0 ≤ x) {p : List Md × Nat} (h : readModes xs = some p) : isModes p.1 = true ∧ modeBytes p.1 = xs.take p.2 ∧ p.2 ≤ xs.length := by
  unfold readModes at h
  split at h
  · cases h
  · rename_i h0
    obtain ⟨p0, h1, h2⟩ := Option.bind_eq_some_iff.1 h
    split at h2
    · rename_i hc
      cases h2
      obtain ⟨g1, g2, g3, g4⟩ := mdsTo_yes hx (by omega) h1
      refine ⟨hc, ?_, g3⟩
      have h3 : 0 ≤ xs.getD 0 0 := by
        rw [List.getD_eq_getElem?_getD, List.getElem?_eq_getElem (by omega)]
        exact hx _ (List.getElem_mem _)
      unfold modeBytes
      rw [g4, g1, Int.toNat_of_nonneg h3]
    · cases h2
/-- The laws of a written and of a read table. -/
theorem modes_round {t : List Md} (h : isModes t = true) (rest : List Int) (hb : isBytes (modeBytes t ++ rest) = true) : readModeTable (modeBytes t ++ rest) = (t, ((modeBytes t).length : Int), 0) := by
  unfold readModeTable
  rw [if_neg (by rw [hb]; simp), readModes_round h]
theorem read_modes_again {xs : List Int} {t : List Md} {n : Int} (h : readModeTable xs = (t, n, 0)) : ∃ a : Nat, n = a ∧ a ≤ xs.length ∧ modeTableBytes t = (xs.take a, 0) := by
  unfold readModeTable at h
  split at h
  · cases h
  · rename_i hb
    have hx : ∀ x ∈ xs, 0 ≤ x := fun x hx => ((isBytes_iff.1 (by simpa using hb)).2 x hx).1
    split at h
    · cases h
    · rename_i p hp
      obtain ⟨h1, h2, h3⟩ := readModes_yes hx hp
      cases h
      exact ⟨p.2, rfl, h3, by unfold modeTableBytes; rw [if_pos h1, h2]⟩
theorem bytes_modes {t : List Md} {b : List Int} (h : modeTableBytes t = (b, 0)) : isModes t = true ∧ b = modeBytes t := by
  unfold modeTableBytes at h
  split at h
  · rename_i h1
    cases h
    exact ⟨h1, rfl⟩
  · cases h

/-! ### walks -/
/-- n changes lead from a mode to a mode. -/
def walk (t : List Md) : Nat → Nat → Nat → Prop
  | 0, i, j => i = j
  | n + 1, i, j => ∃ k : Nat, (k : Int) ∈ (mdOf t i).next ∧ walk t n k j
theorem near_iff {t : List Md} (h : isModes t = true) {D : Nat → Int} {d : Int} {i : Nat} : near t D d i = true ↔ ∃ k : Nat, (k : Int) ∈ (mdOf t i).next ∧ D k = d := by
  unfold near
  rw [List.any_eq_true]
  constructor
  · rintro ⟨j, hj, e⟩
    have := next_in h i j hj
    exact ⟨j.toNat, by rw [Int.toNat_of_nonneg this.1]; exact hj, by simpa using e⟩
  · rintro ⟨k, hk, e⟩
    exact ⟨k, hk, by simpa using e⟩
theorem dist_keep {t : List Md} {to d i : Nat} (h : 0 ≤ distTo t to d i) : distTo t to (d + 1) i = distTo t to d i := by
  rw [distTo, if_neg (by omega)]
theorem dist_le {t : List Md} {to : Nat} : ∀ d i, distTo t to d i ≤ d ∧ -1 ≤ distTo t to d i
  | 0, i => by rw [distTo]; split <;> omega
  | d + 1, i => by
    have := dist_le (t := t) (to := to) d i
    rw [distTo]
    split <;> omega
theorem dist_walk {t : List Md} (h : isModes t = true) {to : Nat} : ∀ d i, 0 ≤ distTo t to d i → walk t (distTo t to d i).toNat i to
  | 0, i, h0 => by
    rw [distTo] at h0 ⊢
    split at h0
    · rename_i e
      rw [if_pos e]
      exact e
    · omega
  | d + 1, i, h0 => by
    rw [distTo] at h0 ⊢
    by_cases hc : distTo t to d i < 0 ∧ near t (distTo t to d) d i = true
    · rw [if_pos hc]
      obtain ⟨k, hk, e⟩ := (near_iff h).1 hc.2
      have := dist_walk h (to := to) d k (by omega)
      rw [e, Int.toNat_natCast] at this
      rw [show ((d : Int) + 1).toNat = d + 1 from by omega]
      exact ⟨k, hk, this⟩
    · rw [if_neg hc] at h0 ⊢
      exact dist_walk h d i h0
theorem walk_dist {t : List Md} (h : isModes t = true) {to : Nat} : ∀ d n i, n ≤ d → walk t n i to → 0 ≤ distTo t to d i ∧ distTo t to d i ≤ n
  | 0, n, i, hn, hw => by
    obtain rfl : n = 0 := by omega
    have e : i = to := hw
    rw [distTo, if_pos e]
    omega
  | d + 1, n, i, hn, hw => by
    by_cases hd : n ≤ d
    · have ih := walk_dist h d n i hd hw
      rw [dist_keep ih.1]
      exact ih
    · obtain rfl : n = d + 1 := by omega
      obtain ⟨k, hk, hw⟩ := hw
      have ih := walk_dist h d d k (Nat.le_refl _) hw
      have hle := dist_le (t := t) (to := to) d i
      by_cases h0 : 0 ≤ distTo t to d i
      · rw [dist_keep h0]
        omega
      · have e : distTo t to d k = d := by
          rcases Int.lt_or_eq_of_le ih.2 with hlt | he
          · have hw2 := dist_walk h d k ih.1
            have h4 := (walk_dist h d ((distTo t to d k).toNat + 1) i (by omega) ⟨k, hk, hw2⟩).1
            exact absurd h4 h0
          · exact he
        rw [distTo, if_pos ⟨by omega, (near_iff h).2 ⟨k, hk, e⟩⟩]
        omega
/-- A pass that looks for d finds the same in the list that it changes. -/
theorem dist_pass {t : List Md} {to d j : Nat} : distTo t to (d + 1) j = d ↔ distTo t to d j = d := by
  rw [distTo]
  split <;> omega
/-- The distances within a pass: the first i are done. -/
def distsAt (t : List Md) (to d i : Nat) : List Int := List.map (fun j : Nat => if j < i then distTo t to (d + 1) j else distTo t to d j) (List.range t.length)
theorem distsAt_len (t : List Md) (to d i : Nat) : (distsAt t to d i).length = t.length := by simp [distsAt]
theorem distsAt_get {t : List Md} {to d i j : Nat} (hj : j < t.length) : (distsAt t to d i).getD j 0 = if j < i then distTo t to (d + 1) j else distTo t to d j := by
  simp [distsAt, List.getD, hj]
theorem distsAt_is {t : List Md} {to d i j : Nat} (hj : j < t.length) : (distsAt t to d i).getD j 0 = d ↔ distTo t to d j = d := by
  rw [distsAt_get hj]
  split
  · exact dist_pass
  · exact Iff.rfl
theorem distsAt_set {t : List Md} {to d i : Nat} : (distsAt t to d i).set i (distTo t to (d + 1) i) = distsAt t to d (i + 1) := by
  apply List.ext_getElem
  · simp [distsAt]
  · intro j h1 h2
    have hj : j < t.length := by simpa [distsAt] using h2
    rw [List.getElem_set]
    by_cases e : i = j
    · subst e
      simp [distsAt]
    · rw [if_neg e]
      simp only [distsAt, List.getElem_map, List.getElem_range]
      by_cases hl : j < i
      · rw [if_pos hl, if_pos (by omega)]
      · rw [if_neg hl, if_neg (by omega)]
theorem distsAt_still {t : List Md} {to d i : Nat} (h : distTo t to (d + 1) i = distTo t to d i) : distsAt t to d i = distsAt t to d (i + 1) := by
  rw [← distsAt_set, h]
  apply List.ext_getElem
  · simp
  · intro j h1 h2
    rw [List.getElem_set]
    by_cases e : i = j
    · subst e
      simp [distsAt]
    · rw [if_neg e]
theorem distsAt_end (t : List Md) (to d : Nat) : distsAt t to d t.length = distsAt t to (d + 1) 0 := by
  unfold distsAt
  refine List.map_congr_left fun j hj => ?_
  rw [if_pos (List.mem_range.1 hj), if_neg (by omega)]
def dists (t : List Md) (to : Nat) : List Int := distsAt t to t.length 0
theorem dists_get {t : List Md} {to j : Nat} (hj : j < t.length) : (dists t to).getD j 0 = dist t to j := by
  rw [dists, distsAt_get hj, if_neg (by omega), dist]
theorem dists_first {t : List Md} {to : Nat} : distsAt t to 0 0 = (List.replicate t.length (-1 : Int)).set to 0 := by
  apply List.ext_getElem
  · simp [distsAt]
  · intro j h1 h2
    rw [List.getElem_set]
    simp only [distsAt, List.getElem_map, List.getElem_range, List.getElem_replicate, Nat.not_lt_zero, if_false, distTo]
    by_cases e : j = to
    · rw [if_pos e, if_pos e.symm]
    · rw [if_neg e, if_neg (fun h => e h.symm)]

/-! ### ways -/
theorem dist_next {t : List Md} (h : isModes t = true) {to n a : Nat} (hn : dist t to a = (n : Int) + 1) : ∃ k : Nat, (k : Int) ∈ (mdOf t a).next ∧ dist t to k = n := by
  have hle := (dist_le (t := t) (to := to) t.length a).1
  have hw := dist_walk h (to := to) t.length a (by unfold dist at hn; omega)
  unfold dist at hn ⊢
  rw [hn] at hw hle
  rw [show ((n : Int) + 1).toNat = n + 1 from by omega] at hw
  obtain ⟨k, hk, hw⟩ := hw
  have h1 := walk_dist h t.length n k (by omega) hw
  refine ⟨k, hk, ?_⟩
  rcases Int.lt_or_eq_of_le h1.2 with hlt | he
  · have hw2 := dist_walk h t.length k h1.1
    have h4 := (walk_dist h t.length ((distTo t to t.length k).toNat + 1) a (by omega) ⟨k, hk, hw2⟩).2
    omega
  · exact he
theorem stepTo_mem {t : List Md} (h : isModes t = true) {to n a : Nat} (hn : dist t to a = (n : Int) + 1) : ((stepTo t to n a : Nat) : Int) ∈ (mdOf t a).next ∧ dist t to (stepTo t to n a) = n := by
  obtain ⟨k, hk, e⟩ := dist_next h hn
  unfold stepTo
  rcases hf : (mdOf t a).next.find? (fun j => decide (dist t to j.toNat = (n : Int))) with _ | j
  · have := List.find?_eq_none.1 hf k hk
    simp [e] at this
  · have h1 := List.mem_of_find?_eq_some hf
    have h2 := List.find?_some hf
    have h3 := next_in h a j h1
    rw [hf, Option.getD_some, Int.toNat_of_nonneg h3.1]
    exact ⟨h1, by simpa using h2⟩
theorem atK_dist {t : List Md} (h : isModes t = true) {to n a : Nat} (hn : dist t to a = n) : ∀ k, k ≤ n → dist t to (atK t to n a k) = (n : Int) - k
  | 0, _ => by rw [atK, hn]; omega
  | k + 1, hk => by
    have ih := atK_dist h hn k (by omega)
    rw [atK, show (n : Int) - ((k : Int) + 1) = ((n - (k + 1) : Nat) : Int) from by omega]
    rw [(stepTo_mem h (n := n - (k + 1)) (by rw [ih]; omega)).2]
    omega
theorem atK_next {t : List Md} (h : isModes t = true) {to n a : Nat} (hn : dist t to a = n) {k : Nat} (hk : k < n) : ((atK t to n a (k + 1) : Nat) : Int) ∈ (mdOf t (atK t to n a k)).next := by
  have ih := atK_dist h hn k (by omega)
  rw [atK, show (n : Int) - ((k : Int) + 1) = ((n - (k + 1) : Nat) : Int) from by omega]
  exact (stepTo_mem h (n := n - (k + 1)) (by rw [ih]; omega)).1
theorem atK_in {t : List Md} (h : isModes t = true) {to n a : Nat} (ha : a < t.length) (hn : dist t to a = n) : ∀ k, k ≤ n → atK t to n a k < t.length
  | 0, _ => ha
  | k + 1, hk => by
    have := next_in h _ _ (atK_next h hn (k := k) (by omega))
    omega
theorem dist_zero {t : List Md} (h : isModes t = true) {to a : Nat} : dist t to a = 0 ↔ a = to := by
  constructor
  · intro e
    have hw := dist_walk h (to := to) t.length a (by unfold dist at e; omega)
    unfold dist at e
    rw [e] at hw
    exact hw
  · rintro rfl
    have := walk_dist h (to := a) t.length 0 a (by omega) rfl
    unfold dist
    omega
theorem atK_last {t : List Md} (h : isModes t = true) {to n a : Nat} (hn : dist t to a = n) : atK t to n a n = to :=
  (dist_zero h).1 (by rw [atK_dist h hn n (Nat.le_refl _)]; omega)
theorem pathTo_len (t : List Md) (to n a k : Nat) : (pathTo t to n a k).length = k + 1 := by simp [pathTo]
theorem pathTo_get {t : List Md} {to n a k i : Nat} (hi : i ≤ k) : (pathTo t to n a k).getD i 0 = ((atK t to n a i : Nat) : Int) := by
  simp [pathTo, List.getD, show i < k + 1 from by omega]
theorem pathTo_zero (t : List Md) (to n a : Nat) : pathTo t to n a 0 = [(a : Int)] := rfl
theorem pathTo_succ (t : List Md) (to n a k : Nat) : pathTo t to n a (k + 1) = pathTo t to n a k ++ [((atK t to n a (k + 1) : Nat) : Int)] := by
  unfold pathTo
  rw [List.range_succ, List.map_append]
  rfl
/-- One change suffices exactly for an element of Next. -/
theorem dist_one {t : List Md} (h : isModes t = true) {to a : Nat} : dist t to a = 1 ↔ (to : Int) ∈ (mdOf t a).next := by
  constructor
  · intro e
    obtain ⟨k, hk, e2⟩ := dist_next h (n := 0) (by rw [e]; rfl)
    rw [(dist_zero h).1 e2] at hk
    exact hk
  · intro hm
    have h1 := (isModes_iff.1 h).1
    have h2 := walk_dist h (to := to) t.length 1 a (by omega) ⟨to, hm, rfl⟩
    have h3 : dist t to a ≠ 0 := fun e => by
      rw [(dist_zero h).1 e] at hm
      exact next_not h to hm
    unfold dist at h3 ⊢
    omega
theorem reach_mem {t : List Md} {a : Nat} {b : Int} : b ∈ reachOf t a ↔ ∃ k : Nat, b = k ∧ k < t.length ∧ 0 ≤ dist t k a := by
  unfold reachOf
  rw [List.mem_map]
  constructor
  · rintro ⟨k, hk, rfl⟩
    rw [List.mem_filter] at hk
    exact ⟨k, rfl, List.mem_range.1 hk.1, by simpa using hk.2⟩
  · rintro ⟨k, rfl, hk, h⟩
    exact ⟨k, List.mem_filter.2 ⟨List.mem_range.2 hk, by simpa using h⟩, rfl⟩
/-- What the law of ways says. -/
theorem path_law {t : List Md} {a b : Int} {p : List Int} (h : modePath t a b = (p, 0)) :
    isModes t = true ∧ isMode t a = true ∧ isMode t b = true ∧ ∃ n : Nat, dist t b.toNat a.toNat = n ∧ p = pathTo t b.toNat n a.toNat n ∧ p.length = n + 1 ∧ p.getD 0 0 = a ∧ p.getD n 0 = b ∧
      b ∈ reachOf t a.toNat ∧ (∀ i, i < n → mayChange t (p.getD i 0) (p.getD (i + 1) 0) = true) ∧ (decide (p.length = 2) = mayChange t a b) := by
  unfold modePath at h
  split at h
  · cases h
  · rename_i ht
    have ht : isModes t = true := by simpa using ht
    split at h
    · cases h
    · rename_i hm
      have hm : isMode t a = true ∧ isMode t b = true := by simpa using hm
      split at h
      · cases h
      · rename_i hd
        have ha := isMode_iff.1 hm.1
        have hb := isMode_iff.1 hm.2
        obtain ⟨n, hn⟩ : ∃ n : Nat, dist t b.toNat a.toNat = n := ⟨(dist t b.toNat a.toNat).toNat, by omega⟩
        rw [hn, Int.toNat_natCast] at h
        cases h
        refine ⟨ht, hm.1, hm.2, n, hn, rfl, pathTo_len _ _ _ _ _, ?_, ?_, ?_, fun i hi => ?_, ?_⟩
        · rw [pathTo_get (Nat.zero_le _), atK]; omega
        · rw [pathTo_get (Nat.le_refl _), atK_last ht hn]; omega
        · exact reach_mem.2 ⟨b.toNat, by omega, by omega, by omega⟩
        · rw [pathTo_get (by omega), pathTo_get (by omega)]
          unfold mayChange
          have h1 := atK_in ht (by omega) hn i (by omega)
          have h2 := atK_next ht hn hi
          rw [ht, isMode_iff.2 ⟨by omega, by omega⟩, Int.toNat_natCast]
          simpa using h2
        · unfold mayChange
          rw [ht, hm.1, pathTo_len]
          have h1 := dist_one ht (to := b.toNat) (a := a.toNat)
          rw [Int.toNat_of_nonneg hb.1] at h1
          simp only [Bool.true_and]
          apply decide_eq_decide.2
          rw [← h1, hn]
          omega
theorem path_none {t : List Md} {a b : Int} {p : List Int} (h : modePath t a b = (p, 4)) : isModes t = true ∧ isMode t a = true ∧ isMode t b = true ∧ b ∉ reachOf t a.toNat := by
  unfold modePath at h
  split at h
  · cases h
  · rename_i ht
    have ht : isModes t = true := by simpa using ht
    split at h
    · cases h
    · rename_i hm
      have hm : isMode t a = true ∧ isMode t b = true := by simpa using hm
      split at h
      · rename_i hd
        refine ⟨ht, hm.1, hm.2, fun hb => ?_⟩
        obtain ⟨k, rfl, hk, h0⟩ := reach_mem.1 hb
        rw [Int.toNat_natCast] at hd
        omega
      · cases h
/-! ### every walk may be cut to fewer changes than there are modes -/
theorem pigeon11 : ∀ (n m : Nat) (f : Nat → Nat), (∀ i, i < m → f i < n) → (∀ i j, i < m → j < m → f i = f j → i = j) → m ≤ n
  | 0, m, f, h1, _ => by
    rcases Nat.eq_zero_or_pos m with h0 | h0
    · omega
    · exact absurd (h1 0 h0) (by omega)
  | n + 1, 0, _, _, _ => by omega
  | n + 1, m + 1, f, h1, h2 => by
    have := pigeon11 n m (fun i => if f i = n then f m else f i) (fun i hi => by
      have a1 := h1 i (by omega)
      have a2 := h1 m (by omega)
      by_cases e : f i = n
      · simp only [e, if_true]
        have : f m ≠ n := fun e2 => by have := h2 i m (by omega) (by omega) (by omega); omega
        omega
      · simp only [e, if_false]
        omega) (fun i j hi hj e => by
      have a1 : f i = f m → i = m := h2 i m (by omega) (by omega)
      have a2 : f j = f m → j = m := h2 j m (by omega) (by omega)
      have a3 : f i = f j → i = j := h2 i j (by omega) (by omega)
      by_cases e1 : f i = n
      · by_cases e2 : f j = n
        · exact a3 (by omega)
        · simp only [e1, if_true, e2, if_false] at e
          have := a2 e.symm
          omega
      · by_cases e2 : f j = n
        · simp only [e2, if_true, e1, if_false] at e
          have := a1 e
          omega
        · simp only [e1, e2, if_false] at e
          exact a3 e)
    omega
theorem dist_lt {t : List Md} (h : isModes t = true) {to a : Nat} (ha : a < t.length) : dist t to a < t.length := by
  by_cases h0 : 0 ≤ dist t to a
  · obtain ⟨n, hn⟩ : ∃ n : Nat, dist t to a = n := ⟨(dist t to a).toNat, by omega⟩
    have := pigeon11 t.length (n + 1) (atK t to n a) (fun i hi => atK_in h ha hn i (by omega)) (fun i j hi hj e => by
      have h1 := atK_dist h hn i (by omega)
      have h2 := atK_dist h hn j (by omega)
      rw [e] at h1
      omega)
    omega
  · have := (isModes_iff.1 h).1
    omega
/-- A walk's start has a distance, however long the walk. -/
theorem walk_any {t : List Md} (h : isModes t = true) {to : Nat} : ∀ n i, walk t n i to → 0 ≤ dist t to i
  | 0, i, e => by
    have e : i = to := e
    rw [(dist_zero h).2 e]
    omega
  | n + 1, i, ⟨k, hk, hw⟩ => by
    have ih := walk_any h n k hw
    have hkl := next_in h i k hk
    have hlt := dist_lt h (to := to) (a := k) (by omega)
    have hw2 := dist_walk h t.length k ih
    unfold dist at hlt ih ⊢
    exact (walk_dist h t.length ((distTo t to t.length k).toNat + 1) i (by omega) ⟨k, hk, hw2⟩).1
/-- A pass that finds nothing is the last that could. -/
theorem dist_stop {t : List Md} (h : isModes t = true) {to d : Nat} (hs : ∀ i, distTo t to (d + 1) i = distTo t to d i) : ∀ e i, distTo t to (d + e) i = distTo t to d i
  | 0, _ => rfl
  | e + 1, i => by
    rw [← Nat.add_assoc, distTo]
    rw [if_neg, dist_stop h hs e i]
    rintro ⟨h1, h2⟩
    obtain ⟨k, hk, e2⟩ := (near_iff h).1 h2
    rw [dist_stop h hs e k] at e2
    have hle := dist_le (t := t) (to := to) d k
    rcases Nat.eq_zero_or_pos e with rfl | he
    · have h3 := hs i
      rw [distTo, if_pos ⟨by rw [Nat.add_zero] at h1; exact h1, (near_iff h).2 ⟨k, hk, by omega⟩⟩] at h3
      rw [Nat.add_zero] at h1
      omega
    · omega
end Go.Proofs.Ytpedlofckbplmaa
