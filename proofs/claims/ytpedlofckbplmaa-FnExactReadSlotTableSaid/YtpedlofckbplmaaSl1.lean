/-
  The plain functions of chapter 12, and what its laws say of them. No program is named here.
-/
import Derived.Test.YtpedlofckbplmaaEigA
namespace Go.Proofs.Ytpedlofckbplmaa

/-- An entry of a slot table: its mode, round and slot, and what is sent. -/
structure Sl where
  mode : Int
  round : Int
  slot : Int
  desc : Ds
def Sl.zero : Sl := ⟨0, 0, 0, Ds.zero⟩
def slOf (t : List Sl) (i : Nat) : Sl := t.getD i Sl.zero
def isSl (x : Sl) : Bool := inRange 0 15 x.mode && (inRange 0 7 x.round && (inRange 0 15 x.slot && isDesc x.desc))
def cmpSl (a b : Sl) : Int :=
  if a.mode < b.mode then -1 else if b.mode < a.mode then 1 else if a.round < b.round then -1 else if b.round < a.round then 1 else if a.slot < b.slot then -1 else if b.slot < a.slot then 1 else 0
/-- Entry i is valid, and behind the one ahead of it. -/
def stepSl (t : List Sl) (i : Nat) : Bool := isSl (slOf t i) && (decide (i = 0) || decide (cmpSl (slOf t (i - 1)) (slOf t i) < 0))
def isSls (t : List Sl) : Bool := decide (t.length ≤ 120) && (List.range t.length).all (stepSl t)
def slBytes (x : Sl) : List Int := [x.mode * 16 + x.round, x.slot] ++ descBytes x.desc
def slotBytes (t : List Sl) : List Int := [(t.length : Int)] ++ t.flatMap slBytes
def slotTableBytes (t : List Sl) : List Int × Int := if isSls t = true then (slotBytes t, 0) else ([], 1)
/-- The entry that lies at a place. -/
def slAt (xs : List Int) (a : Nat) : Option Sl :=
  if (descFrom ((xs.drop (a + 2)).take 5)).2 = 0 then some ⟨xs.getD a 0 / 16, xs.getD a 0 % 16, xs.getD (a + 1) 0, (descFrom ((xs.drop (a + 2)).take 5)).1⟩ else none
/-- The first k entries. -/
def slsTo (xs : List Int) : Nat → Option (List Sl)
  | 0 => some []
  | k + 1 => (slsTo xs k).bind fun t => (slAt xs (1 + 7 * k)).map fun x => t ++ [x]
def readSlots (xs : List Int) : Option (List Sl × Nat) :=
  if xs.length = 0 ∨ xs.length < 1 + 7 * (xs.getD 0 0).toNat then none else (slsTo xs (xs.getD 0 0).toNat).bind fun t => if isSls t = true then some (t, 1 + 7 * (xs.getD 0 0).toNat) else none
def readSlotTable (xs : List Int) : List Sl × Int × Int :=
  if isBytes xs = false then ([], 0, 2) else match readSlots xs with
    | none => ([], 0, 6)
    | some p => (p.1, (p.2 : Int), 0)
def sameSl (m r s : Int) (x : Sl) : Bool := decide (x.mode = m) && (decide (x.round = r) && decide (x.slot = s))
def findSlot (t : List Sl) (m r s : Int) : Ds × Int :=
  if isSls t = false then (Ds.zero, 1) else match t.find? (sameSl m r s) with
    | none => (Ds.zero, 4)
    | some x => (x.desc, 0)
/-- The places of the entries of a node among the first k. -/
def nodeTo (t : List Sl) (node : Int) (k : Nat) : List Int := List.map (fun i : Nat => (i : Int)) ((List.range k).filter fun i => decide ((slOf t i).desc.node = node))
def slotsOfNode (t : List Sl) (node : Int) : List Int × Int := if isSls t = false then ([], 1) else (nodeTo t node t.length, 0)
def before (t : List Sl) (x : Sl) : List Sl := t.filter fun y => decide (cmpSl y x < 0)
def behind (t : List Sl) (x : Sl) : List Sl := t.filter fun y => decide (0 < cmpSl y x)
def insertSlot (t : List Sl) (x : Sl) : List Sl × Int :=
  if isSls t = false then ([], 1) else if isSl x = false then ([], 2) else if t.any (sameSl x.mode x.round x.slot) = true then ([], 5) else if t.length = 120 then ([], 3) else (before t x ++ x :: behind t x, 0)

/-! ### the order -/
theorem cmp_lt {a b : Sl} : cmpSl a b < 0 ↔ (a.mode < b.mode ∨ (a.mode = b.mode ∧ (a.round < b.round ∨ (a.round = b.round ∧ a.slot < b.slot)))) := by
  unfold cmpSl; repeat' split
  all_goals omega
theorem cmp_gt {a b : Sl} : 0 < cmpSl a b ↔ cmpSl b a < 0 := by
  rw [cmp_lt]
  unfold cmpSl; repeat' split
  all_goals omega
theorem cmp_neg (a b : Sl) : cmpSl b a = -cmpSl a b := by
  unfold cmpSl; repeat' split
  all_goals omega
theorem cmp_same {a b : Sl} : cmpSl a b = 0 ↔ sameSl b.mode b.round b.slot a = true := by
  unfold cmpSl sameSl
  simp only [Bool.and_eq_true, decide_eq_true_eq]
  repeat' split
  all_goals omega
theorem cmp_in (a b : Sl) : cmpSl a b = -1 ∨ cmpSl a b = 0 ∨ cmpSl a b = 1 := by
  unfold cmpSl; repeat' split
  all_goals omega
theorem cmp_trans {a b c : Sl} (h1 : cmpSl a b < 0) (h2 : cmpSl b c < 0) : cmpSl a c < 0 := by
  rw [cmp_lt] at *; omega
theorem slOf_get {t : List Sl} {i : Nat} (h : i < t.length) : slOf t i = t[i] := by simp [slOf, List.getD, List.getElem?_eq_getElem h]
theorem slOf_mem {t : List Sl} {i : Nat} (h : i < t.length) : slOf t i ∈ t := by rw [slOf_get h]; exact List.getElem_mem h
theorem mem_slOf {t : List Sl} {x : Sl} (h : x ∈ t) : ∃ i, i < t.length ∧ slOf t i = x := by
  obtain ⟨i, hi, e⟩ := List.getElem_of_mem h
  exact ⟨i, hi, by rw [slOf_get hi]; exact e⟩
theorem isSls_steps {t : List Sl} : isSls t = true ↔ t.length ≤ 120 ∧ ∀ i, i < t.length → stepSl t i = true := by
  simp [isSls, List.all_eq_true]
theorem stepSl_iff {t : List Sl} {i : Nat} : stepSl t i = true ↔ isSl (slOf t i) = true ∧ (i = 0 ∨ cmpSl (slOf t (i - 1)) (slOf t i) < 0) := by simp [stepSl]
/-- In a slot table every entry is before every later one. -/
theorem isSls_iff {t : List Sl} : isSls t = true ↔ t.length ≤ 120 ∧ (∀ x ∈ t, isSl x = true) ∧ t.Pairwise fun a b => cmpSl a b < 0 := by
  rw [isSls_steps]
  constructor
  · rintro ⟨h1, h2⟩
    refine ⟨h1, fun x hx => ?_, List.pairwise_iff_getElem.2 fun i j hi hj hij => ?_⟩
    · obtain ⟨i, hi, rfl⟩ := mem_slOf hx
      exact (stepSl_iff.1 (h2 i hi)).1
    · rw [← slOf_get hi, ← slOf_get hj]
      obtain ⟨d, rfl⟩ : ∃ d, j = i + d + 1 := ⟨j - i - 1, by omega⟩
      clear hij
      induction d with
      | zero =>
        have := (stepSl_iff.1 (h2 (i + 1) hj)).2
        rcases this with h | h
        · omega
        · exact h
      | succ d ih =>
        have ih := ih (by omega)
        have := (stepSl_iff.1 (h2 (i + (d + 1) + 1) hj)).2
        rcases this with h | h
        · omega
        · exact cmp_trans ih h
  · rintro ⟨h1, h2, h3⟩
    refine ⟨h1, fun i hi => stepSl_iff.2 ⟨h2 _ (slOf_mem hi), ?_⟩⟩
    rcases Nat.eq_zero_or_pos i with h0 | h0
    · exact .inl h0
    · refine .inr ?_
      rw [slOf_get hi, slOf_get (by omega)]
      exact List.pairwise_iff_getElem.1 h3 (i - 1) i (by omega) hi (by omega)
theorem sls_no {t : List Sl} {k : Nat} (hk : k < t.length) (h : stepSl t k = false) : isSls t = false := by
  rw [Bool.eq_false_iff]
  intro hc
  rw [(isSls_steps.1 hc).2 k hk] at h
  cases h
theorem isSl_iff {x : Sl} : isSl x = true ↔ (0 ≤ x.mode ∧ x.mode ≤ 15) ∧ (0 ≤ x.round ∧ x.round ≤ 7) ∧ (0 ≤ x.slot ∧ x.slot ≤ 15) ∧ isDesc x.desc = true := by
  simp [isSl, inRange_iff, and_assoc]

/-! ### found -/
theorem same_iff {m r s : Int} {x : Sl} : sameSl m r s x = true ↔ x.mode = m ∧ x.round = r ∧ x.slot = s := by simp [sameSl]
/-- In a slot table an entry is the only one of its slot. -/
theorem find_here {t : List Sl} (h : isSls t = true) {x : Sl} (hx : x ∈ t) : findSlot t x.mode x.round x.slot = (x.desc, 0) := by
  unfold findSlot
  rw [if_neg (by rw [h]; simp)]
  obtain ⟨-, -, h3⟩ := isSls_iff.1 h
  rcases hf : t.find? (sameSl x.mode x.round x.slot) with _ | y
  · have := List.find?_eq_none.1 hf x hx
    simp [sameSl] at this
  · have h1 := List.mem_of_find?_eq_some hf
    have h2 := same_iff.1 (List.find?_some hf)
    have e : x = y := by
      obtain ⟨i, hi, ei⟩ := List.getElem_of_mem hx
      obtain ⟨j, hj, ej⟩ := List.getElem_of_mem h1
      rcases Nat.lt_trichotomy i j with hij | rfl | hij
      · have := List.pairwise_iff_getElem.1 h3 i j hi hj hij
        rw [ei, ej, cmp_lt] at this
        omega
      · rw [← ei, ← ej]
      · have := List.pairwise_iff_getElem.1 h3 j i hj hi hij
        rw [ei, ej, cmp_lt] at this
        omega
    rw [e]
/-- How many entries a node has. -/
theorem nodeTo_len (t : List Sl) (node : Int) : (nodeTo t node t.length).length = (t.filter fun x => decide (x.desc.node = node)).length := by
  unfold nodeTo
  rw [List.length_map]
  have e : t = (List.range t.length).map (slOf t) := by
    apply List.ext_getElem (by simp)
    intro i h1 h2
    simp [slOf_get h1]
  conv => rhs; rw [e, List.filter_map, List.length_map]
  rfl
theorem nodeTo_succ (t : List Sl) (node : Int) (k : Nat) : nodeTo t node (k + 1) = if (slOf t k).desc.node = node then nodeTo t node k ++ [(k : Int)] else nodeTo t node k := by
  unfold nodeTo
  rw [List.range_succ, List.filter_append, List.map_append]
  by_cases h : (slOf t k).desc.node = node <;> simp [h]

/-! ### inserted -/
theorem insert_sorted {t : List Sl} (h : isSls t = true) {x : Sl} (hx : isSl x = true) (hl : t.length < 120) (hn : t.any (sameSl x.mode x.round x.slot) = false) :
    isSls (before t x ++ x :: behind t x) = true ∧ (before t x).length + (behind t x).length = t.length := by
  obtain ⟨h1, h2, h3⟩ := isSls_iff.1 h
  have hne : ∀ y ∈ t, cmpSl y x ≠ 0 := fun y hy e => by
    have := List.any_eq_false.1 hn y hy
    rw [cmp_same.1 e] at this
    exact this rfl
  have hlen : (before t x).length + (behind t x).length = t.length := by
    unfold before behind
    have : ∀ l : List Sl, (∀ y ∈ l, cmpSl y x ≠ 0) → (l.filter fun y => decide (cmpSl y x < 0)).length + (l.filter fun y => decide (0 < cmpSl y x)).length = l.length := by
      intro l
      induction l with
      | nil => intro _; rfl
      | cons y l ih =>
        intro hl
        have ih := ih (fun z hz => hl z (by simp [hz]))
        have hy := hl y (by simp)
        by_cases h : cmpSl y x < 0
        · rw [List.filter_cons_of_pos (by simpa using h), List.filter_cons_of_neg (by simp; omega), List.length_cons, List.length_cons]; omega
        · rw [List.filter_cons_of_neg (by simpa using h), List.filter_cons_of_pos (by simp; omega), List.length_cons, List.length_cons]; omega
    exact this t hne
  refine ⟨isSls_iff.2 ⟨by rw [List.length_append, List.length_cons]; omega, fun y hy => ?_, ?_⟩, hlen⟩
  · rcases List.mem_append.1 hy with hy | hy
    · exact h2 y (List.mem_filter.1 hy).1
    · rcases List.mem_cons.1 hy with rfl | hy
      · exact hx
      · exact h2 y (List.mem_filter.1 hy).1
  · rw [List.pairwise_append]
    refine ⟨h3.filter _, List.pairwise_cons.2 ⟨fun y hy => ?_, h3.filter _⟩, fun a ha b hb => ?_⟩
    · exact cmp_gt.1 (by simpa using (List.mem_filter.1 hy).2)
    · have ha2 : cmpSl a x < 0 := by simpa using (List.mem_filter.1 ha).2
      rcases List.mem_cons.1 hb with rfl | hb
      · exact ha2
      · exact cmp_trans ha2 (cmp_gt.1 (by simpa using (List.mem_filter.1 hb).2))
/-- What the law of inserted entries says. -/
theorem insert_law {t y : List Sl} {x : Sl} (h : insertSlot t x = (y, 0)) :
    isSls t = true ∧ isSls y = true ∧ y = before t x ++ x :: behind t x ∧ findSlot y x.mode x.round x.slot = (x.desc, 0) ∧ (nodeTo y x.desc.node y.length).length = (nodeTo t x.desc.node t.length).length + 1 ∧ y.length = t.length + 1 := by
  unfold insertSlot at h
  split at h
  · cases h
  · rename_i h1
    split at h
    · cases h
    · rename_i h2
      split at h
      · cases h
      · rename_i h3
        split at h
        · cases h
        · rename_i h4
          have h1 : isSls t = true := by simpa using h1
          have h2 : isSl x = true := by simpa using h2
          have h3 : t.any (sameSl x.mode x.round x.slot) = false := by simpa using h3
          have hl := (isSls_iff.1 h1).1
          obtain ⟨g1, g2⟩ := insert_sorted h1 h2 (by omega) h3
          have e := (Prod.mk.inj h).1
          subst e
          refine ⟨h1, g1, rfl, find_here g1 (by simp), ?_, by rw [List.length_append, List.length_cons]; omega⟩
          rw [nodeTo_len, nodeTo_len, List.filter_append, List.filter_cons_of_pos (by simp), List.length_append, List.length_cons]
          have hne : ∀ y ∈ t, cmpSl y x ≠ 0 := fun y hy e => by
            have := List.any_eq_false.1 h3 y hy
            rw [cmp_same.1 e] at this
            exact this rfl
          have : ∀ l : List Sl, (∀ y ∈ l, cmpSl y x ≠ 0) → ((l.filter fun y => decide (cmpSl y x < 0)).filter fun z => decide (z.desc.node = x.desc.node)).length + ((l.filter fun y => decide (0 < cmpSl y x)).filter fun z => decide (z.desc.node = x.desc.node)).length = (l.filter fun z => decide (z.desc.node = x.desc.node)).length := by
            intro l
            induction l with
            | nil => intro _; rfl
            | cons y l ih =>
              intro hl
              have ih := ih (fun z hz => hl z (by simp [hz]))
              have hy := hl y (by simp)
              by_cases h : cmpSl y x < 0
              · rw [List.filter_cons_of_pos (p := fun y => decide (cmpSl y x < 0)) (by simpa using h), List.filter_cons_of_neg (p := fun y => decide (0 < cmpSl y x)) (by simp; omega)]
                by_cases hn : y.desc.node = x.desc.node
                · rw [List.filter_cons_of_pos (by simpa using hn), List.filter_cons_of_pos (by simpa using hn), List.length_cons, List.length_cons]; omega
                · rw [List.filter_cons_of_neg (by simpa using hn), List.filter_cons_of_neg (by simpa using hn)]; omega
              · rw [List.filter_cons_of_neg (p := fun y => decide (cmpSl y x < 0)) (by simpa using h), List.filter_cons_of_pos (p := fun y => decide (0 < cmpSl y x)) (by simp; omega)]
                by_cases hn : y.desc.node = x.desc.node
                · rw [List.filter_cons_of_pos (by simpa using hn), List.filter_cons_of_pos (by simpa using hn), List.length_cons, List.length_cons]; omega
                · rw [List.filter_cons_of_neg (by simpa using hn), List.filter_cons_of_neg (by simpa using hn)]; omega
          have := this t hne
          unfold before behind
          omega

/-! ### bytes -/
theorem slBytes_len (x : Sl) : (slBytes x).length = 7 := rfl
theorem sl_flat (t : List Sl) : (t.flatMap slBytes).length = 7 * t.length := by
  induction t with
  | nil => rfl
  | cons x t ih => rw [List.flatMap_cons, List.length_append, ih, slBytes_len, List.length_cons]; omega
theorem slotBytes_len (t : List Sl) : (slotBytes t).length = 1 + 7 * t.length := by unfold slotBytes; rw [List.length_append, sl_flat]; rfl
theorem slBytes_in {x : Sl} (h : isSl x = true) : ∀ y ∈ slBytes x, 0 ≤ y ∧ y ≤ 255 := by
  intro y hy
  obtain ⟨h1, h2, h3, h4⟩ := isSl_iff.1 h
  unfold slBytes at hy
  rcases List.mem_append.1 hy with hy | hy
  · simp only [List.mem_cons, List.not_mem_nil, or_false] at hy
    omega
  · exact descBytes_le h4 y hy
theorem slotBytes_in {t : List Sl} (h : isSls t = true) : ∀ y ∈ slotBytes t, 0 ≤ y ∧ y ≤ 255 := by
  intro y hy
  obtain ⟨h1, h2, -⟩ := isSls_iff.1 h
  unfold slotBytes at hy
  rcases List.mem_append.1 hy with hy | hy
  · rw [List.mem_singleton] at hy
    omega
  · obtain ⟨x, hx, hy⟩ := List.mem_flatMap.1 hy
    exact slBytes_in (h2 x hx) y hy
theorem slots_two {t : List Sl} (h : isSls t = true) (zs : List Int) (hz : ∀ z ∈ zs, 0 ≤ z ∧ z ≤ 255) (hl : zs.length ≤ 100) : isBytes (slotBytes t ++ zs) = true := by
  have h1 := slotBytes_len t
  have h2 := (isSls_iff.1 h).1
  refine isBytes_iff.2 ⟨by rw [List.length_append]; omega, fun x hx => ?_⟩
  rcases List.mem_append.1 hx with hx | hx
  · exact slotBytes_in h x hx
  · exact hz x hx

/-! ### what is read -/
theorem slAt_here {ps rest : List Int} {x : Sl} (h : isSl x = true) : slAt (ps ++ (slBytes x ++ rest)) ps.length = some x := by
  obtain ⟨h1, h2, h3, h4⟩ := isSl_iff.1 h
  have hg : ∀ j, j < 7 → (ps ++ (slBytes x ++ rest)).getD (ps.length + j) 0 = (slBytes x).getD j 0 := fun j hj => by
    simp only [List.getD]
    rw [List.getElem?_append_right (by omega), Nat.add_sub_cancel_left, List.getElem?_append_left (by rw [slBytes_len]; exact hj)]
  have g0 := hg 0 (by omega)
  have g1 := hg 1 (by omega)
  have hd : ((ps ++ (slBytes x ++ rest)).drop (ps.length + 2)).take 5 = descBytes x.desc := by
    rw [List.drop_append, List.drop_of_length_le (by omega), List.nil_append, Nat.add_sub_cancel_left]
    rfl
  rw [Nat.add_zero] at g0
  have e0 : (slBytes x).getD 0 0 = x.mode * 16 + x.round := rfl
  have e1 : (slBytes x).getD 1 0 = x.slot := rfl
  unfold slAt
  rw [hd, desc_round h4, g0, g1, e0, e1, if_pos rfl]
  obtain ⟨m, r, s, d⟩ := x
  simp only at h1 h2 h3 ⊢
  rw [show (m * 16 + r) / 16 = m from by omega, show (m * 16 + r) % 16 = r from by omega]
theorem slsTo_flat (ps : List Int) (hp : ps.length = 1) (rest : List Int) (t : List Sl) (ht : ∀ x ∈ t, isSl x = true) :
    ∀ k, k ≤ t.length → slsTo (ps ++ (t.flatMap slBytes ++ rest)) k = some (t.take k)
  | 0, _ => by simp [slsTo]
  | k + 1, hk => by
    have ih := slsTo_flat ps hp rest t ht k (by omega)
    have hx : k < t.length := hk
    have hs : t.flatMap slBytes = (t.take k).flatMap slBytes ++ (slBytes t[k] ++ (t.drop (k + 1)).flatMap slBytes) := by
      conv => lhs; rw [← List.take_append_drop k t, List.drop_eq_getElem_cons hx]
      rw [List.flatMap_append, List.flatMap_cons]
    have hpl : 1 + 7 * k = (ps ++ (t.take k).flatMap slBytes).length := by rw [List.length_append, hp, sl_flat, List.length_take]; omega
    have h1 : ps ++ (t.flatMap slBytes ++ rest) = (ps ++ (t.take k).flatMap slBytes) ++ (slBytes t[k] ++ ((t.drop (k + 1)).flatMap slBytes ++ rest)) := by
      rw [hs]; simp only [List.append_assoc]
    rw [slsTo, ih, Option.bind_some, h1, hpl, slAt_here (ht _ (List.getElem_mem hx)), Option.map_some, List.take_append_getElem hx]
theorem readSlots_round {t : List Sl} (h : isSls t = true) (rest : List Int) : readSlots (slotBytes t ++ rest) = some (t, (slotBytes t).length) := by
  have hn := slsTo_flat [(t.length : Int)] rfl rest t (isSls_iff.1 h).2.1 t.length (Nat.le_refl _)
  have e : slotBytes t ++ rest = [(t.length : Int)] ++ (t.flatMap slBytes ++ rest) := by unfold slotBytes; rw [List.append_assoc]
  have hl := slotBytes_len t
  rw [List.take_length] at hn
  unfold readSlots
  rw [show (slotBytes t ++ rest).getD 0 0 = (t.length : Int) from rfl, Int.toNat_natCast, if_neg (by rw [List.length_append, hl]; omega), e, hn, Option.bind_some, if_pos h, hl]
theorem descFrom_yes {xs : List Int} {d : Ds} (h : descFrom xs = (d, 0)) : descBytes d = xs := by
  unfold descFrom at h
  split at h
  · split at h
    · rename_i hc
      have e := (Prod.mk.inj h).1
      rw [← e]
      exact hc.2
    · cases h
  · cases h
theorem slAt_yes {xs : List Int} {a : Nat} {x : Sl} (h : slAt xs a = some x) (ha : a + 7 ≤ xs.length) : xs.take (a + 7) = xs.take a ++ slBytes x := by
  unfold slAt at h
  split at h
  · rename_i hc
    cases h
    obtain ⟨d, hd⟩ : ∃ d, descFrom ((xs.drop (a + 2)).take 5) = (d, 0) := ⟨(descFrom ((xs.drop (a + 2)).take 5)).1, by rw [← hc]⟩
    have h5 := descFrom_yes hd
    rw [hd]
    unfold slBytes
    simp only
    rw [h5, show xs.getD a 0 / 16 * 16 + xs.getD a 0 % 16 = xs.getD a 0 from by omega, List.take_add]
    congr 1
    have hdr : xs.drop a = xs.getD a 0 :: xs.getD (a + 1) 0 :: xs.drop (a + 2) := by
      rw [List.drop_eq_getElem_cons (by omega), List.drop_eq_getElem_cons (by omega)]
      simp [List.getD, List.getElem?_eq_getElem (show a < xs.length by omega), List.getElem?_eq_getElem (show a + 1 < xs.length by omega)]
    rw [hdr]
    rfl
  · cases h
theorem slsTo_yes {xs : List Int} (h0 : 1 ≤ xs.length) : ∀ {k : Nat} {t : List Sl}, slsTo xs k = some t → 1 + 7 * k ≤ xs.length → t.length = k ∧ xs.take (1 + 7 * k) = [xs.getD 0 0] ++ t.flatMap slBytes
  | 0, t, h, _ => by
    cases h
    refine ⟨rfl, ?_⟩
    rcases xs with _ | ⟨x, r⟩
    · simp at h0
    · simp
  | k + 1, t, h, hk => by
    rw [slsTo] at h
    obtain ⟨t0, h1, h2⟩ := Option.bind_eq_some_iff.1 h
    obtain ⟨x, h3, rfl⟩ := Option.map_eq_some_iff.1 h2
    obtain ⟨g1, g2⟩ := slsTo_yes h0 h1 (by omega)
    have k1 := slAt_yes h3 (by omega)
    refine ⟨by simp [g1], ?_⟩
    rw [show 1 + 7 * (k + 1) = 1 + 7 * k + 7 from by omega, k1, g2, List.flatMap_append]
    simp
theorem readSlots_yes {xs : List Int} (hx : ∀ x ∈ xs, 0 ≤ x) {p : List Sl × Nat} (h : readSlots xs = some p) : isSls p.1 = true ∧ slotBytes p.1 = xs.take p.2 ∧ p.2 ≤ xs.length ∧ p.1.length = (xs.getD 0 0).toNat := by
  unfold readSlots at h
  split at h
  · cases h
  · rename_i h0
    obtain ⟨t, h1, h2⟩ := Option.bind_eq_some_iff.1 h
    split at h2
    · rename_i hc
      cases h2
      obtain ⟨g1, g2⟩ := slsTo_yes (by omega) h1 (by omega)
      have h3 : 0 ≤ xs.getD 0 0 := by
        rw [List.getD_eq_getElem?_getD, List.getElem?_eq_getElem (by omega)]
        exact hx _ (List.getElem_mem _)
      refine ⟨hc, ?_, by simp only; omega, g1⟩
      unfold slotBytes
      simp only
      rw [g2, g1, Int.toNat_of_nonneg h3]
    · cases h2
/-- The laws of a written and of a read table. -/
theorem slots_round {t : List Sl} (h : isSls t = true) (rest : List Int) (hb : isBytes (slotBytes t ++ rest) = true) : readSlotTable (slotBytes t ++ rest) = (t, ((slotBytes t).length : Int), 0) := by
  unfold readSlotTable
  rw [if_neg (by rw [hb]; simp), readSlots_round h]
theorem read_slots_again {xs : List Int} {t : List Sl} {n : Int} (h : readSlotTable xs = (t, n, 0)) : ∃ a : Nat, n = a ∧ a ≤ xs.length ∧ slotTableBytes t = (xs.take a, 0) := by
  unfold readSlotTable at h
  split at h
  · cases h
  · rename_i hb
    have hx : ∀ x ∈ xs, 0 ≤ x := fun x hx => ((isBytes_iff.1 (by simpa using hb)).2 x hx).1
    split at h
    · cases h
    · rename_i p hp
      obtain ⟨h1, h2, h3, -⟩ := readSlots_yes hx hp
      cases h
      exact ⟨p.2, rfl, h3, by unfold slotTableBytes; rw [if_pos h1, h2]⟩
theorem bytes_slots {t : List Sl} {b : List Int} (h : slotTableBytes t = (b, 0)) : isSls t = true ∧ b = slotBytes t := by
  unfold slotTableBytes at h
  split at h
  · rename_i h1
    cases h
    exact ⟨h1, rfl⟩
  · cases h
end Go.Proofs.Ytpedlofckbplmaa
