/-
  The plain functions of chapter 10, and what its laws say of them. No program is named here.
-/
import Derived.Test.YtpedlofckbplmaaBase
import Derived.Test.YtpedlofckbplmaaVecs
import Derived.Test.YtpedlofckbplmaaSt
namespace Go.Proofs.Ytpedlofckbplmaa

/-- An entry: its node, its name, its drift, whether it is passive. -/
structure Nd where
  id : Int
  name : ByteArray
  drift : Int
  pas : Bool
def Nd.zero : Nd := ⟨0, ByteArray.empty, 0, false⟩
def charOk (x : Int) : Bool := (decide (97 ≤ x) && decide (x ≤ 122)) || (decide (48 ≤ x) && decide (x ≤ 57))
def nameOk (s : ByteArray) : Bool := (nums s).all charOk && (decide (1 ≤ s.size) && decide (s.size ≤ 6))
def isNd (x : Nd) : Bool := inRange 0 31 x.id && (nameOk x.name && inRange 0 1000 x.drift)
def ndOf (t : List Nd) (i : Nat) : Nd := t.getD i Nd.zero
/-- Whether entry i's Id is greater than the one before it; whether its name is none of those before it. -/
def upOk (t : List Nd) (i : Nat) : Bool := decide (i = 0) || decide ((ndOf t (i - 1)).id < (ndOf t i).id)
def newName (t : List Nd) (i : Nat) : Bool := (List.range i).all fun k => decide ((ndOf t k).name ≠ (ndOf t i).name)
def entryOk (t : List Nd) (i : Nat) : Bool := isNd (ndOf t i) && (upOk t i && newName t i)
def isTable (t : List Nd) : Bool := (decide (1 ≤ t.length) && decide (t.length ≤ 32)) && (List.range t.length).all (entryOk t)
def flag10 (c : Bool) : Int := if c = true then 1 else 0
def ndBytes (x : Nd) : List Int := [x.id, x.drift / 256, x.drift % 256, flag10 x.pas, (x.name.size : Int)] ++ nums x.name
def tabBytes (t : List Nd) : List Int := [(t.length : Int)] ++ t.flatMap ndBytes
def nodeTableBytes (t : List Nd) : List Int × Int := if isTable t = true then (tabBytes t, 0) else ([], 1)
/-- The entry that lies at a place, and the place behind it. -/
def ndAt (xs : List Int) (a : Nat) : Option (Nd × Nat) :=
  if a + 5 ≤ xs.length ∧ a + 5 + (xs.getD (a + 4) 0).toNat ≤ xs.length then
    some (⟨xs.getD a 0, strOfNums ((xs.drop (a + 5)).take (xs.getD (a + 4) 0).toNat), 256 * xs.getD (a + 1) 0 + xs.getD (a + 2) 0, decide (xs.getD (a + 3) 0 = 1)⟩, a + 5 + (xs.getD (a + 4) 0).toNat)
  else none
/-- The first k entries, and the place behind them. -/
def ndsTo (xs : List Int) : Nat → Option (List Nd × Nat)
  | 0 => some ([], 1)
  | k + 1 => (ndsTo xs k).bind fun p => (ndAt xs p.2).map fun q => (p.1 ++ [q.1], q.2)
def readTab (xs : List Int) : Option (List Nd × Nat) :=
  if xs.length = 0 then none else
    (ndsTo xs (xs.getD 0 0).toNat).bind fun p => if isTable p.1 = true ∧ tabBytes p.1 = xs.take p.2 then some p else none
def readNodeTable (xs : List Int) : List Nd × Int × Int :=
  if isBytes xs = false then ([], 0, 2) else match readTab xs with
    | none => ([], 0, 6)
    | some p => (p.1, (p.2 : Int), 0)
def findIn : List Nd → Int → Option Nd
  | [], _ => none
  | x :: r, id => if x.id = id then some x else findIn r id
def findNode (t : List Nd) (id : Int) : Nd × Int :=
  if isTable t = true then (match findIn t id with | some x => (x, 0) | none => (Nd.zero, 4)) else (Nd.zero, 1)
/-- The vector of those of the first k entries that are not passive. -/
def actTo (t : List Nd) : Nat → Nat
  | 0 => 0
  | k + 1 => if (ndOf t k).pas = true then actTo t k else setN (actTo t k) (ndOf t k).id.toNat true
def activeVector (t : List Nd) : Int × Int := if isTable t = true then ((actTo t t.length : Nat), 0) else (0, 1)
/-- The two greatest drifts of the first k entries. -/
def topStep (p : Int × Int) (d : Int) : Int × Int := if p.1 < d then (d, p.1) else if p.2 < d then (p.1, d) else p
def topTo (t : List Nd) : Nat → Int × Int
  | 0 => (0, 0)
  | k + 1 => topStep (topTo t k) (ndOf t k).drift
def topOf (t : List Nd) : Int := (topTo t t.length).1 + (topTo t t.length).2
def driftIn (t : List Nd) (time : Int) : Int := (topOf t * time + 999999) / 1000000
def worstDrift (t : List Nd) (time : Int) : Int × Int :=
  if isTable t = true then (if inRange 0 65535 time = true then (driftIn t time, 0) else (0, 2)) else (0, 1)

/-! ### strings and their bytes -/
theorem nums_inj10 {a b : ByteArray} (h : nums a = nums b) : a = b := by
  apply ByteArray.ext
  apply Array.ext'
  unfold nums at h
  exact (List.map_inj_right fun x y hxy => UInt8.toNat_inj.1 (by exact_mod_cast hxy)).1 h
theorem nums_str10 (xs : List Int) (h : ∀ x ∈ xs, 0 ≤ x ∧ x ≤ 255) : nums (strOfNums xs) = xs := by
  unfold nums
  rw [strOfNums_data, List.map_map]
  refine (List.map_congr_left fun x hx => ?_).trans (List.map_id xs)
  have := h x hx
  obtain ⟨n, rfl⟩ := Int.eq_ofNat_of_zero_le this.1
  simp only [Function.comp, Int.toNat_natCast, id_eq]
  rw [UInt8.toNat_ofNat']
  omega
theorem nums_byte (s : ByteArray) : ∀ x ∈ nums s, 0 ≤ x ∧ x ≤ 255 := by
  intro x hx
  unfold nums at hx
  obtain ⟨c, -, rfl⟩ := List.mem_map.1 hx
  have := c.toNat_lt
  omega
theorem str_nums10 (s : ByteArray) : strOfNums (nums s) = s := nums_inj10 (nums_str10 _ (nums_byte s))

/-! ### tables -/
theorem inR10 {lo hi x : Int} : inRange lo hi x = true ↔ lo ≤ x ∧ x ≤ hi := by simp [inRange]
theorem ndOf_get {t : List Nd} {i : Nat} (h : i < t.length) : ndOf t i = t[i] := by simp [ndOf, List.getD, List.getElem?_eq_getElem h]
theorem ndOf_mem {t : List Nd} {i : Nat} (h : i < t.length) : ndOf t i ∈ t := by rw [ndOf_get h]; exact List.getElem_mem h
theorem mem_ndOf {t : List Nd} {x : Nd} (h : x ∈ t) : ∃ i, i < t.length ∧ ndOf t i = x := by
  obtain ⟨i, hi, e⟩ := List.getElem_of_mem h
  exact ⟨i, hi, by rw [ndOf_get hi]; exact e⟩
theorem isTable_iff {t : List Nd} : isTable t = true ↔ (1 ≤ t.length ∧ t.length ≤ 32) ∧ ∀ i, i < t.length → entryOk t i = true := by
  simp [isTable, List.all_eq_true]
theorem entryOk_iff {t : List Nd} {i : Nat} : entryOk t i = true ↔ isNd (ndOf t i) = true ∧ upOk t i = true ∧ newName t i = true := by
  simp [entryOk]
theorem isNd_iff {x : Nd} : isNd x = true ↔ (0 ≤ x.id ∧ x.id ≤ 31) ∧ nameOk x.name = true ∧ (0 ≤ x.drift ∧ x.drift ≤ 1000) := by
  simp [isNd, inR10]
theorem nameOk_iff {s : ByteArray} : nameOk s = true ↔ (∀ x ∈ nums s, charOk x = true) ∧ 1 ≤ s.size ∧ s.size ≤ 6 := by
  simp [nameOk, List.all_eq_true]
theorem table_nd {t : List Nd} (h : isTable t = true) {i : Nat} (hi : i < t.length) : isNd (ndOf t i) = true := (entryOk_iff.1 ((isTable_iff.1 h).2 i hi)).1
theorem table_mem {t : List Nd} (h : isTable t = true) {x : Nd} (hx : x ∈ t) : isNd x = true := by
  obtain ⟨i, hi, rfl⟩ := mem_ndOf hx
  exact table_nd h hi
theorem table_step {t : List Nd} (h : isTable t = true) {i : Nat} (hi : i + 1 < t.length) : (ndOf t i).id < (ndOf t (i + 1)).id := by
  have h1 := (entryOk_iff.1 ((isTable_iff.1 h).2 (i + 1) hi)).2.1
  simpa [upOk] using h1
theorem table_up {t : List Nd} (h : isTable t = true) {i : Nat} : ∀ {j : Nat}, i < j → j < t.length → (ndOf t i).id < (ndOf t j).id
  | 0, hij, _ => by omega
  | j + 1, hij, hj => by
    have h1 := table_step h hj
    by_cases e : i = j
    · subst e; exact h1
    · have h2 := table_up h (i := i) (j := j) (by omega) (by omega)
      omega
theorem table_names {t : List Nd} (h : isTable t = true) {i j : Nat} (hij : i < j) (hj : j < t.length) : (ndOf t i).name ≠ (ndOf t j).name := by
  have h1 := (entryOk_iff.1 ((isTable_iff.1 h).2 j hj)).2.2
  unfold newName at h1
  rw [List.all_eq_true] at h1
  simpa using h1 i (List.mem_range.2 hij)

/-! ### bytes -/
theorem ndBytes_len (x : Nd) : (ndBytes x).length = 5 + x.name.size := by simp [ndBytes, nums_len]; omega
theorem flag10_in (c : Bool) : 0 ≤ flag10 c ∧ flag10 c ≤ 1 := by cases c <;> decide
theorem flag10_eq (c : Bool) : decide (flag10 c = 1) = c := by cases c <;> decide
theorem ndBytes_in {x : Nd} (h : isNd x = true) : ∀ y ∈ ndBytes x, 0 ≤ y ∧ y ≤ 255 := by
  obtain ⟨h1, h2, h3⟩ := isNd_iff.1 h
  obtain ⟨-, h4, h5⟩ := nameOk_iff.1 h2
  have h6 := flag10_in x.pas
  intro y hy
  unfold ndBytes at hy
  rcases List.mem_append.1 hy with hy | hy
  · simp only [List.mem_cons, List.not_mem_nil, or_false] at hy
    omega
  · exact nums_byte _ _ hy
theorem flat_le (f : Nd → List Int) (L : Nat) : ∀ t : List Nd, (∀ x ∈ t, (f x).length ≤ L) → (t.flatMap f).length ≤ L * t.length
  | [], _ => by simp
  | x :: r, h => by
    have h1 := flat_le f L r (fun y hy => h y (by simp [hy]))
    have h2 := h x (by simp)
    rw [List.flatMap_cons, List.length_append, List.length_cons, Nat.mul_succ]
    omega
theorem tabBytes_len {t : List Nd} (h : isTable t = true) : (tabBytes t).length ≤ 353 := by
  have h1 := flat_le ndBytes 11 t (fun x hx => by
    have := (nameOk_iff.1 (isNd_iff.1 (table_mem h hx)).2.1).2.2
    rw [ndBytes_len]; omega)
  have h2 := (isTable_iff.1 h).1
  unfold tabBytes
  rw [List.length_append, List.length_singleton]
  omega
theorem tabBytes_in {t : List Nd} (h : isTable t = true) : ∀ y ∈ tabBytes t, 0 ≤ y ∧ y ≤ 255 := by
  intro y hy
  unfold tabBytes at hy
  rcases List.mem_append.1 hy with hy | hy
  · rw [List.mem_singleton] at hy
    have := (isTable_iff.1 h).1
    omega
  · obtain ⟨x, hx, hy⟩ := List.mem_flatMap.1 hy
    exact ndBytes_in (table_mem h hx) y hy
/-- The bytes of a table with two bytes behind them are a byte list. -/
theorem table_two {t : List Nd} (h : isTable t = true) (zs : List Int) (hz : ∀ z ∈ zs, 0 ≤ z ∧ z ≤ 255) (hl : zs.length ≤ 600) : isBytes (tabBytes t ++ zs) = true := by
  have h1 := tabBytes_len h
  refine isBytes_iff.2 ⟨by rw [List.length_append]; omega, fun x hx => ?_⟩
  rcases List.mem_append.1 hx with hx | hx
  · exact tabBytes_in h x hx
  · exact hz x hx

/-! ### what is read -/
theorem ndAt_here {ps rest : List Int} {x : Nd} : ndAt (ps ++ (ndBytes x ++ rest)) ps.length = some (x, ps.length + (ndBytes x).length) := by
  have hg : ∀ j, j < (ndBytes x).length → (ps ++ (ndBytes x ++ rest)).getD (ps.length + j) 0 = (ndBytes x).getD j 0 := fun j hj => by
    simp only [List.getD]
    rw [List.getElem?_append_right (by omega), Nat.add_sub_cancel_left, List.getElem?_append_left hj]
  have hl := ndBytes_len x
  have h0 := hg 0 (by omega)
  have h1 := hg 1 (by omega)
  have h2 := hg 2 (by omega)
  have h3 := hg 3 (by omega)
  have h4 := hg 4 (by omega)
  have hd : (ps ++ (ndBytes x ++ rest)).drop (ps.length + 5) = nums x.name ++ rest := by
    rw [List.drop_append, List.drop_of_length_le (by omega), List.nil_append, Nat.add_sub_cancel_left]
    rfl
  have hsz : (ps ++ (ndBytes x ++ rest)).length = ps.length + (5 + x.name.size) + rest.length := by rw [List.length_append, List.length_append, hl]; omega
  have e0 : (ndBytes x).getD 0 0 = x.id := rfl
  have e1 : (ndBytes x).getD 1 0 = x.drift / 256 := rfl
  have e2 : (ndBytes x).getD 2 0 = x.drift % 256 := rfl
  have e3 : (ndBytes x).getD 3 0 = flag10 x.pas := rfl
  have e4 : (ndBytes x).getD 4 0 = (x.name.size : Int) := rfl
  rw [Nat.add_zero] at h0
  unfold ndAt
  rw [h0, h1, h2, h3, h4, hd, e0, e1, e2, e3, e4, hl]
  rw [if_pos ⟨by omega, by omega⟩, Int.toNat_natCast, flag10_eq, show 256 * (x.drift / 256) + x.drift % 256 = x.drift from by omega]
  rw [List.take_append_of_le_length (by rw [nums_len]; exact Nat.le_refl _), List.take_of_length_le (by rw [nums_len]; exact Nat.le_refl _), str_nums10, Nat.add_assoc]
theorem ndsTo_flat (ps : List Int) (hp : ps.length = 1) (rest : List Int) (t : List Nd) :
    ∀ k, k ≤ t.length → ndsTo (ps ++ (t.flatMap ndBytes ++ rest)) k = some (t.take k, 1 + ((t.take k).flatMap ndBytes).length)
  | 0, _ => by simp [ndsTo]
  | k + 1, hk => by
    have ih := ndsTo_flat ps hp rest t k (by omega)
    have hx : k < t.length := hk
    have hs : t.flatMap ndBytes = (t.take k).flatMap ndBytes ++ (ndBytes t[k] ++ (t.drop (k + 1)).flatMap ndBytes) := by
      conv => lhs; rw [← List.take_append_drop k t, List.drop_eq_getElem_cons hx]
      rw [List.flatMap_append, List.flatMap_cons]
    have hpl : 1 + ((t.take k).flatMap ndBytes).length = (ps ++ (t.take k).flatMap ndBytes).length := by rw [List.length_append, hp]
    have h1 : ps ++ (t.flatMap ndBytes ++ rest) = (ps ++ (t.take k).flatMap ndBytes) ++ (ndBytes t[k] ++ ((t.drop (k + 1)).flatMap ndBytes ++ rest)) := by
      rw [hs]; simp only [List.append_assoc]
    rw [ndsTo, ih, Option.bind_some]
    simp only
    rw [h1, hpl, ndAt_here, Option.map_some]
    rw [show t.take (k + 1) = t.take k ++ [t[k]] from by rw [List.take_append_getElem hx], List.flatMap_append]
    simp only [List.flatMap_cons, List.flatMap_nil, List.append_nil, List.length_append, hp]
    congr 2
    omega
theorem readTab_round {t : List Nd} (h : isTable t = true) (rest : List Int) : readTab (tabBytes t ++ rest) = some (t, (tabBytes t).length) := by
  have hn := ndsTo_flat [(t.length : Int)] rfl rest t t.length (Nat.le_refl _)
  have e : tabBytes t ++ rest = [(t.length : Int)] ++ (t.flatMap ndBytes ++ rest) := by unfold tabBytes; rw [List.append_assoc]
  have hl : (tabBytes t).length = 1 + (t.flatMap ndBytes).length := by unfold tabBytes; rw [List.length_append]; rfl
  rw [List.take_length] at hn
  unfold readTab
  rw [if_neg (by rw [List.length_append, hl]; omega)]
  rw [show (tabBytes t ++ rest).getD 0 0 = (t.length : Int) from rfl, Int.toNat_natCast, e, hn, Option.bind_some]
  simp only
  rw [← e, ← hl, if_pos ⟨h, by rw [List.take_append_of_le_length (Nat.le_refl _), List.take_length]⟩]
theorem ndAt_le {xs : List Int} {a : Nat} {q : Nd × Nat} (h : ndAt xs a = some q) : q.2 ≤ xs.length := by
  unfold ndAt at h
  split at h
  · rename_i hc
    cases h
    exact hc.2
  · cases h
theorem ndsTo_le {xs : List Int} (h0 : 1 ≤ xs.length) : ∀ {k : Nat} {p : List Nd × Nat}, ndsTo xs k = some p → p.2 ≤ xs.length
  | 0, p, h => by cases h; exact h0
  | k + 1, p, h => by
    rw [ndsTo] at h
    obtain ⟨p0, h1, h2⟩ := Option.bind_eq_some_iff.1 h
    obtain ⟨q, h3, rfl⟩ := Option.map_eq_some_iff.1 h2
    exact ndAt_le h3
theorem readTab_yes {xs : List Int} {p : List Nd × Nat} (h : readTab xs = some p) : isTable p.1 = true ∧ tabBytes p.1 = xs.take p.2 ∧ p.2 ≤ xs.length := by
  unfold readTab at h
  split at h
  · cases h
  · rename_i h0
    obtain ⟨p0, h1, h2⟩ := Option.bind_eq_some_iff.1 h
    split at h2
    · rename_i hc
      cases h2
      exact ⟨hc.1, hc.2, ndsTo_le (by omega) h1⟩
    · cases h2
/-- A list that begins with a table's bytes is read, and no other is. -/
theorem readTab_iff {xs : List Int} {t : List Nd} {a : Nat} : readTab xs = some (t, a) ↔ isTable t = true ∧ tabBytes t = xs.take a ∧ a ≤ xs.length := by
  refine ⟨fun h => readTab_yes h, fun ⟨h1, h2, h3⟩ => ?_⟩
  have h4 := readTab_round h1 (xs.drop a)
  have h5 : (tabBytes t).length = a := by rw [h2, List.length_take]; omega
  rw [h5, h2, List.take_append_drop] at h4
  exact h4
theorem readTab_none {xs : List Int} (h : ∀ t a, isTable t = true → a ≤ xs.length → tabBytes t ≠ xs.take a) : readTab xs = none := by
  rcases hr : readTab xs with _ | ⟨t, a⟩
  · rfl
  · obtain ⟨h1, h2, h3⟩ := readTab_yes hr
    exact absurd h2 (h t a h1 h3)
/-- The laws of a written and of a read table. -/
theorem table_round {t : List Nd} (h : isTable t = true) (rest : List Int) (hb : isBytes (tabBytes t ++ rest) = true) : readNodeTable (tabBytes t ++ rest) = (t, ((tabBytes t).length : Int), 0) := by
  unfold readNodeTable
  rw [if_neg (by rw [hb]; simp), readTab_round h]
theorem read_again {xs : List Int} {t : List Nd} {n : Int} (h : readNodeTable xs = (t, n, 0)) : ∃ a : Nat, n = a ∧ a ≤ xs.length ∧ nodeTableBytes t = (xs.take a, 0) := by
  unfold readNodeTable at h
  split at h
  · cases h
  · split at h
    · cases h
    · rename_i p hp
      obtain ⟨h1, h2, h3⟩ := readTab_yes hp
      cases h
      exact ⟨p.2, rfl, h3, by unfold nodeTableBytes; rw [if_pos h1, h2]⟩
theorem bytes_table {t : List Nd} {b : List Int} (h : nodeTableBytes t = (b, 0)) : isTable t = true ∧ b = tabBytes t := by
  unfold nodeTableBytes at h
  split at h
  · rename_i h1
    cases h
    exact ⟨h1, rfl⟩
  · cases h

/-! ### the active ones, and how far clocks drift -/
theorem findIn_at : ∀ {t : List Nd} {i : Nat}, i < t.length → (∀ j, j < i → (ndOf t j).id ≠ (ndOf t i).id) → findIn t (ndOf t i).id = some (ndOf t i)
  | [], _, h, _ => by simp at h
  | x :: r, 0, _, _ => by simp [findIn, ndOf]
  | x :: r, i + 1, h, hd => by
    have h0 := hd 0 (by omega)
    have e : ∀ j, ndOf (x :: r) (j + 1) = ndOf r j := fun j => by simp [ndOf]
    have h1 : findIn r (ndOf r i).id = some (ndOf r i) := findIn_at (by simpa using h) (fun j hj => by
      have := hd (j + 1) (by omega)
      rwa [e, e] at this)
    rw [e] at h0 ⊢
    rw [findIn, if_neg (by simpa [ndOf] using h0)]
    exact h1
theorem find_at {t : List Nd} (h : isTable t = true) {i : Nat} (hi : i < t.length) : findNode t (ndOf t i).id = (ndOf t i, 0) := by
  unfold findNode
  rw [if_pos h, findIn_at hi (fun j hj => by have := table_up h hj hi; omega)]
theorem actTo_lt {t : List Nd} (h : isTable t = true) : ∀ k, k ≤ t.length → actTo t k < 4294967296
  | 0, _ => by simp [actTo]
  | k + 1, hk => by
    have h1 := actTo_lt h k (by omega)
    have h2 := (isNd_iff.1 (table_nd h (i := k) hk)).1
    rw [actTo]
    split
    · exact h1
    · exact setN_lt h1 (by omega)
theorem actTo_bit {t : List Nd} (h : isTable t = true) (i : Nat) (hi : i < t.length) : ∀ k, k ≤ t.length → (actTo t k).testBit (ndOf t i).id.toNat = (decide (i < k) && !(ndOf t i).pas)
  | 0, _ => by simp [actTo]
  | k + 1, hk => by
    have ih := actTo_bit h i hi k (by omega)
    have h1 := (isNd_iff.1 (table_nd h hi)).1
    have h2 := (isNd_iff.1 (table_nd h (i := k) hk)).1
    by_cases e : i = k
    · subst e
      rw [actTo]
      split
      · rename_i hp
        rw [ih, hp]; simp
      · rename_i hp
        rw [setN_bit, if_pos rfl]
        simp at hp
        rw [hp]; simp
    · have hne : (ndOf t i).id.toNat ≠ (ndOf t k).id.toNat := by
        rcases Nat.lt_or_gt_of_ne e with hl | hl
        · have := table_up h hl hk; omega
        · have := table_up h hl hi; omega
      have hd : decide (i < k + 1) = decide (i < k) := by
        rw [decide_eq_decide]; omega
      rw [actTo, hd]
      split
      · exact ih
      · rw [setN_bit, if_neg hne]; exact ih
theorem active_member {t : List Nd} (h : isTable t = true) {i : Nat} (hi : i < t.length) : hasMember ((actTo t t.length : Nat) : Int) (ndOf t i).id = !(ndOf t i).pas := by
  have h1 := actTo_lt h t.length (Nat.le_refl _)
  have h2 := (isNd_iff.1 (table_nd h hi)).1
  unfold hasMember isVec isNode
  rw [inR_true (by omega) (by omega), inR_true (by omega) (by omega), Int.toNat_natCast, actTo_bit h i hi _ (Nat.le_refl _), decide_eq_true hi]
  simp
theorem top_in {t : List Nd} (h : isTable t = true) : ∀ k, k ≤ t.length → 0 ≤ (topTo t k).2 ∧ (topTo t k).2 ≤ (topTo t k).1 ∧ (topTo t k).1 ≤ 1000
  | 0, _ => by simp [topTo]
  | k + 1, hk => by
    have ih := top_in h k (by omega)
    have h2 := (isNd_iff.1 (table_nd h (i := k) hk)).2.2
    rw [topTo]
    unfold topStep
    split
    · simp only; omega
    · split
      · simp only; omega
      · exact ih
theorem topOf_in {t : List Nd} (h : isTable t = true) : 0 ≤ topOf t ∧ topOf t ≤ 2000 := by
  have := top_in h t.length (Nat.le_refl _)
  unfold topOf
  omega
theorem drift_less {t : List Nd} (h : isTable t = true) {a b : Int} (hab : a ≤ b) : driftIn t a ≤ driftIn t b := by
  have h1 := topOf_in h
  have h2 : topOf t * a ≤ topOf t * b := Int.mul_le_mul_of_nonneg_left hab h1.1
  unfold driftIn
  omega
theorem drift_in {t : List Nd} (h : isTable t = true) {a : Int} (h0 : 0 ≤ a) (h1 : a ≤ 65535) : 0 ≤ topOf t * a ∧ topOf t * a ≤ 131070000 := by
  have h2 := topOf_in h
  have h3 : 0 ≤ topOf t * a := Int.mul_nonneg h2.1 h0
  have h4 : topOf t * a ≤ 2000 * 65535 := Int.mul_le_mul h2.2 h1 h0 (by omega)
  omega
theorem worst_half {t : List Nd} {time w : Int} (h : worstDrift t time = (w, 0)) : isTable t = true ∧ (0 ≤ time ∧ time ≤ 65535) ∧ ∃ u, worstDrift t (time / 2) = (u, 0) ∧ u ≤ w := by
  unfold worstDrift at h
  split at h
  · rename_i ht
    split at h
    · rename_i hr
      have h1 := inR10.1 hr
      cases h
      refine ⟨ht, h1, driftIn t (time / 2), ?_, drift_less ht (by omega)⟩
      unfold worstDrift
      rw [if_pos ht, if_pos (inR10.2 (by omega))]
    · cases h
  · cases h
end Go.Proofs.Ytpedlofckbplmaa
