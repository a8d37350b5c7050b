/-
  Contracts of the program's, the model's and the laws' functions, and plain mathematics, on which a proof of this claim stands (part F).
-/
import Derived.Deep.Slices
import Derived.Lib.SmallJoins
import Derived.ChangeArms
import Derived.Deep.AppendLies
import Derived.BigRegion
import Derived.Test.YthihjhidjnadaaaGreatP21A
import Derived.Test.YthihjhidjnadaaaGreatP21N
import Derived.Test.YthihjhidjnadaaaGreatP21I
import Derived.Test.YthihjhidjnadaaaGreatP21U
import Derived.Test.YthihjhidjnadaaaGreatP21X
namespace Go.Proofs.YthihjhidjnadaaaGreat
section
structure Sd where
  st : Int
  d : Ds
def Sd.zero : Sd := ⟨0, Ds.zero⟩
def Sd.fin (x : Sd) : Int := x.st + x.d.dur
def sdOf (t : List Sd) (i : Nat) : Sd := t.getD i Sd.zero
def sentTo (L : List Sl) (node : Int) : Nat → List Sd
  | 0 => []
  | j + 1 => sentTo L node j ++ if (slOf L j).desc.node = node then [⟨dursum (L.take j), (slOf L j).desc⟩] else []
def sentL (L : List Sl) (node : Int) : List Sd := sentTo L node L.length
def isFrom (t c : Int) (x : Sd) : Bool := decide (t ≤ x.st + c)
def cyBase (C t : Int) : Int := t - t % C
def firstFrom (C : Int) (S : List Sd) (t : Int) : Sd :=
  match S.find? (isFrom t (cyBase C t)) with
  | some x => ⟨x.st + cyBase C t, x.d⟩
  | none => ⟨(sdOf S 0).st + (cyBase C t + C), (sdOf S 0).d⟩
def gapAfter (C : Int) (S : List Sd) (x : Sd) : Int := (firstFrom C S (x.st + 1)).st - x.st
def chainFrom (C : Int) (A B : List Sd) (e : Int) : Int := (firstFrom C B (firstFrom C A e).fin).fin - e
def topL : List Int → Int
  | [] => 0
  | a :: r => r.foldl max a
def lowL : List Int → Int
  | [] => 0
  | a :: r => r.foldl min a
def gapsL (C : Int) (S : List Sd) : List Int := S.map (gapAfter C S)
def chainsL (C : Int) (A B : List Sd) : List Int := A.map fun x => chainFrom C A B (x.st + 1)
def sizeSum : List Sd → Int
  | [] => 0
  | x :: r => x.d.size + sizeSum r
def cellSum : List Sl → Int
  | [] => 0
  | x :: r => cellsOf8 x.desc.kind x.desc.size + cellSum r
def pauseSl (x : Sl) : Int := x.desc.dur - cellsOf8 x.desc.kind x.desc.size
def nodeUnknown (t : List Nd) (n : Int) : Bool := decide ((findNode t n).2 ≠ 0)
def nodePassive (t : List Nd) (n : Int) : Bool := (findNode t n).1.pas
def codeSend (t : List Nd) (ns : List Int) : Int := if ns.any (nodeUnknown t) = true then 2 else if ns.any (nodePassive t) = true then 4 else 0
def codeAn (m : Me) (k : Int) (ns : List Int) : Int := if codeLm m k = 0 then codeSend m.nodes ns else codeLm m k
def cycK (m : Me) (k : Int) : List Sl := inMode m.slots k.toNat
def cyc17 (m : Me) (k : Int) : Int := dursum (cycK m k)
def sent17 (m : Me) (k n : Int) : List Sd := sentL (cycK m k) n
def gapsOf (m : Me) (k n : Int) : List Int × Int := if codeAn m k [n] = 0 then (gapsL (cyc17 m k) (sent17 m k n), 0) else ([], codeAn m k [n])
def worstGap (m : Me) (k n : Int) : Int × Int := if codeAn m k [n] = 0 then (topL (gapsL (cyc17 m k) (sent17 m k n)), 0) else (0, codeAn m k [n])
def jitterOf (m : Me) (k n : Int) : Int × Int := if codeAn m k [n] = 0 then (topL (gapsL (cyc17 m k) (sent17 m k n)) - lowL (gapsL (cyc17 m k) (sent17 m k n)), 0) else (0, codeAn m k [n])
def payloadOf (m : Me) (k n : Int) : Int × Int := if codeAn m k [n] = 0 then (sizeSum (sent17 m k n), 0) else (0, codeAn m k [n])
def useOf (m : Me) (k : Int) : Int × Int := if codeLm m k = 0 then (1000 * cellSum (cycK m k) / cyc17 m k, 0) else (0, codeLm m k)
def chainTime (m : Me) (k a b : Int) : Int × Int := if codeAn m k [a, b] = 0 then (topL (chainsL (cyc17 m k) (sent17 m k a) (sent17 m k b)), 0) else (0, codeAn m k [a, b])
def slackOf (m : Me) (k : Int) : Int × Int := if codeLm m k = 0 then (lowL ((cycK m k).map pauseSl), 0) else (0, codeLm m k)
theorem max_fold : ∀ (r : List Int) (a : Int), a ≤ r.foldl max a ∧ (∀ y ∈ r, y ≤ r.foldl max a) ∧ (r.foldl max a = a ∨ r.foldl max a ∈ r)
  | [], a => ⟨Int.le_refl _, by simp, .inl rfl⟩
  | b :: r, a => by
    obtain ⟨h1, h2, h3⟩ := max_fold r (max a b)
    rw [List.foldl_cons]
    refine ⟨by omega, fun y hy => ?_, ?_⟩
    · rcases List.mem_cons.1 hy with rfl | hy
      · omega
      · exact h2 y hy
    · rcases h3 with h3 | h3
      · rw [h3]
        by_cases h : a ≤ b
        · exact .inr (by rw [show max a b = b by omega]; simp)
        · exact .inl (by omega)
      · exact .inr (List.mem_cons_of_mem _ h3)
theorem min_fold : ∀ (r : List Int) (a : Int), r.foldl min a ≤ a ∧ (∀ y ∈ r, r.foldl min a ≤ y) ∧ (r.foldl min a = a ∨ r.foldl min a ∈ r)
  | [], a => ⟨Int.le_refl _, by simp, .inl rfl⟩
  | b :: r, a => by
    obtain ⟨h1, h2, h3⟩ := min_fold r (min a b)
    rw [List.foldl_cons]
    refine ⟨by omega, fun y hy => ?_, ?_⟩
    · rcases List.mem_cons.1 hy with rfl | hy
      · omega
      · exact h2 y hy
    · rcases h3 with h3 | h3
      · rw [h3]
        by_cases h : a ≤ b
        · exact .inl (by omega)
        · exact .inr (by rw [show min a b = b by omega]; simp)
      · exact .inr (List.mem_cons_of_mem _ h3)
theorem topL_in {l : List Int} (h : 0 < l.length) : topL l ∈ l ∧ ∀ y ∈ l, y ≤ topL l := by
  match l, h with
  | a :: r, _ =>
    obtain ⟨h1, h2, h3⟩ := max_fold r a
    refine ⟨?_, fun y hy => ?_⟩
    · rcases h3 with h3 | h3
      · show r.foldl max a ∈ _
        rw [h3]; simp
      · exact List.mem_cons_of_mem _ h3
    · rcases List.mem_cons.1 hy with rfl | hy
      · exact h1
      · exact h2 y hy
theorem lowL_in {l : List Int} (h : 0 < l.length) : lowL l ∈ l ∧ ∀ y ∈ l, lowL l ≤ y := by
  match l, h with
  | a :: r, _ =>
    obtain ⟨h1, h2, h3⟩ := min_fold r a
    refine ⟨?_, fun y hy => ?_⟩
    · rcases h3 with h3 | h3
      · show r.foldl min a ∈ _
        rw [h3]; simp
      · exact List.mem_cons_of_mem _ h3
    · rcases List.mem_cons.1 hy with rfl | hy
      · exact h1
      · exact h2 y hy
theorem take_getD {l : List Int} {k : Nat} (h : k < l.length) : l.take (k + 1) = l.take k ++ [l.getD k 0] := by
  rw [List.take_add_one, List.getElem?_eq_getElem h]
  simp [List.getD, h]
theorem topL_one {l : List Int} (h : 0 < l.length) : topL (l.take 1) = l.getD 0 0 := by
  match l, h with
  | a :: r, _ => simp [topL]
theorem lowL_one {l : List Int} (h : 0 < l.length) : lowL (l.take 1) = l.getD 0 0 := by
  match l, h with
  | a :: r, _ => simp [lowL]
theorem topL_next {l : List Int} {k : Nat} (h0 : 0 < k) (h : k < l.length) : topL (l.take (k + 1)) = max (topL (l.take k)) (l.getD k 0) := by
  rw [take_getD h]
  match l, k, h0, h with
  | a :: r, k + 1, _, h => simp [topL, List.foldl_append]
theorem lowL_next {l : List Int} {k : Nat} (h0 : 0 < k) (h : k < l.length) : lowL (l.take (k + 1)) = min (lowL (l.take k)) (l.getD k 0) := by
  rw [take_getD h]
  match l, k, h0, h with
  | a :: r, k + 1, _, h => simp [lowL, List.foldl_append]
theorem max_fold_next {l : List Int} {a : Int} {k : Nat} (h : k < l.length) : (l.take (k + 1)).foldl max a = max ((l.take k).foldl max a) (l.getD k 0) := by
  rw [take_getD h, List.foldl_append]; rfl
theorem max_fold_top {l : List Int} {a : Int} (h : 0 < l.length) (ha : ∀ y ∈ l, a ≤ y) : l.foldl max a = topL l := by
  match l, h, ha with
  | b :: r, _, ha =>
    have := ha b (by simp)
    show (b :: r).foldl max a = r.foldl max b
    rw [List.foldl_cons, show max a b = b by omega]
theorem min_fold_low {l : List Int} {a : Int} (h : 0 < l.length) (ha : ∀ y ∈ l, y ≤ a) : l.foldl min a = lowL l := by
  match l, h, ha with
  | b :: r, _, ha =>
    have := ha b (by simp)
    show (b :: r).foldl min a = r.foldl min b
    rw [List.foldl_cons, show min a b = b by omega]
theorem sdOf_get {t : List Sd} {i : Nat} (h : i < t.length) : sdOf t i = t[i] := by simp [sdOf, List.getD, List.getElem?_eq_getElem h]
theorem sdOf_mem {t : List Sd} {i : Nat} (h : i < t.length) : sdOf t i ∈ t := by rw [sdOf_get h]; exact List.getElem_mem h
theorem mem_sdOf {t : List Sd} {x : Sd} (h : x ∈ t) : ∃ i, i < t.length ∧ sdOf t i = x := by
  obtain ⟨i, hi, e⟩ := List.getElem_of_mem h
  exact ⟨i, hi, by rw [sdOf_get hi]; exact e⟩
theorem sentTo_more (L : List Sl) (node : Int) (j : Nat) : ∀ n, ∃ R, sentTo L node (j + n) = sentTo L node j ++ R
  | 0 => ⟨[], by simp⟩
  | n + 1 => by
    obtain ⟨R, e⟩ := sentTo_more L node j n
    exact ⟨R ++ if (slOf L (j + n)).desc.node = node then [⟨dursum (L.take (j + n)), (slOf L (j + n)).desc⟩] else [], by rw [← Nat.add_assoc, sentTo, e, List.append_assoc]⟩
theorem sent_split {L : List Sl} {node : Int} {j : Nat} (h : j ≤ L.length) : ∃ R, sentL L node = sentTo L node j ++ R := by
  obtain ⟨R, e⟩ := sentTo_more L node j (L.length - j)
  exact ⟨R, by unfold sentL; rw [← e]; congr 1; omega⟩
theorem sentTo_len (L : List Sl) (node : Int) : ∀ j, (sentTo L node j).length ≤ j
  | 0 => by simp [sentTo]
  | j + 1 => by
    rw [sentTo, List.length_append]
    have := sentTo_len L node j
    split
    · simp; omega
    · simp; omega
theorem sent_times (L : List Sl) (node : Int) : ∀ j, (sentTo L node j).map Sd.st = sendTo L node j
  | 0 => rfl
  | j + 1 => by
    rw [sentTo, sendTo, List.map_append, sent_times L node j]
    split <;> rfl
theorem sizeSum_app (a b : List Sd) : sizeSum (a ++ b) = sizeSum a + sizeSum b := by
  induction a with
  | nil => simp [sizeSum]
  | cons x a ih => simp only [List.cons_append, sizeSum, ih]; omega
theorem take_sdOf {t : List Sd} {k : Nat} (hk : k < t.length) : t.take (k + 1) = t.take k ++ [sdOf t k] := by
  rw [List.take_add_one, List.getElem?_eq_getElem hk, sdOf_get hk]; rfl
theorem sizeSum_next {t : List Sd} {k : Nat} (hk : k < t.length) : sizeSum (t.take (k + 1)) = sizeSum (t.take k) + (sdOf t k).d.size := by
  rw [take_sdOf hk, sizeSum_app]; simp [sizeSum]
theorem cellSum_app (a b : List Sl) : cellSum (a ++ b) = cellSum a + cellSum b := by
  induction a with
  | nil => simp [cellSum]
  | cons x a ih => simp only [List.cons_append, cellSum, ih]; omega
theorem cellSum_next {t : List Sl} {k : Nat} (hk : k < t.length) : cellSum (t.take (k + 1)) = cellSum (t.take k) + cellsOf8 (slOf t k).desc.kind (slOf t k).desc.size := by
  rw [take_slOf hk, cellSum_app]; simp [cellSum]
theorem cellSum_in (t : List Sl) : 0 ≤ cellSum t ∧ cellSum t ≤ 461 * t.length := by
  induction t with
  | nil => simp [cellSum]
  | cons x t ih =>
    have := cells_in x.desc.kind x.desc.size
    simp only [cellSum, List.length_cons]
    omega
structure SdOk (C : Int) (S : List Sd) : Prop where
  ne : 0 < S.length
  le : S.length ≤ 120
  c1 : C ≤ 32000
  lo : ∀ i, i < S.length → 0 ≤ (sdOf S i).st ∧ (sdOf S i).st + (sdOf S i).d.dur ≤ C ∧ 61 ≤ (sdOf S i).d.dur ∧ (sdOf S i).d.dur ≤ 1000
  up : ∀ i j, i < j → j < S.length → (sdOf S i).st + (sdOf S i).d.dur ≤ (sdOf S j).st
theorem sentTo_at (L : List Sl) (node : Int) : ∀ j i, i < (sentTo L node j).length → ∃ p, p < j ∧ (slOf L p).desc.node = node ∧ sdOf (sentTo L node j) i = ⟨dursum (L.take p), (slOf L p).desc⟩
  | 0, i, h => by simp [sentTo] at h
  | j + 1, i, h => by
    rw [sentTo] at h ⊢
    by_cases hi : i < (sentTo L node j).length
    · obtain ⟨p, h1, h2, h3⟩ := sentTo_at L node j i hi
      refine ⟨p, by omega, h2, ?_⟩
      rw [← h3]
      simp [sdOf, List.getD, List.getElem?_append_left hi]
    · split at h
      · rename_i hn
        rw [List.length_append, List.length_singleton] at h
        have e : i = (sentTo L node j).length := by omega
        subst e
        refine ⟨j, by omega, hn, ?_⟩
        rw [if_pos hn]
        simp [sdOf, List.getD]
      · simp at h; omega
theorem sentTo_up (L : List Sl) (node : Int) : ∀ n i j, i < j → j < (sentTo L node n).length → ∃ p q, p < q ∧ q < n ∧ (slOf L p).desc.node = node ∧ (slOf L q).desc.node = node ∧ sdOf (sentTo L node n) i = ⟨dursum (L.take p), (slOf L p).desc⟩ ∧ sdOf (sentTo L node n) j = ⟨dursum (L.take q), (slOf L q).desc⟩
  | 0, i, j, _, h => by simp [sentTo] at h
  | n + 1, i, j, hij, h => by
    rw [sentTo] at h ⊢
    by_cases hj : j < (sentTo L node n).length
    · obtain ⟨p, q, h1, h2, h3, h4, h5, h6⟩ := sentTo_up L node n i j hij hj
      refine ⟨p, q, h1, by omega, h3, h4, ?_, ?_⟩
      · rw [← h5]
        simp [sdOf, List.getD, List.getElem?_append_left (show i < (sentTo L node n).length by omega)]
      · rw [← h6]
        simp [sdOf, List.getD, List.getElem?_append_left hj]
    · split at h
      · rename_i hn
        rw [List.length_append, List.length_singleton] at h
        have e : j = (sentTo L node n).length := by omega
        subst e
        obtain ⟨p, h1, h2, h3⟩ := sentTo_at L node n i hij
        refine ⟨p, n, h1, by omega, h2, hn, ?_, ?_⟩
        · rw [← h3]
          simp [sdOf, List.getD, List.getElem?_append_left hij]
        · rw [if_pos hn]
          simp [sdOf, List.getD]
      · simp at h; omega
theorem sentTo_some {L : List Sl} {node : Int} {p : Nat} (h : (slOf L p).desc.node = node) : ∀ j, p < j → 0 < (sentTo L node j).length
  | 0, hj => by omega
  | j + 1, hj => by
    rw [sentTo, List.length_append]
    by_cases e : p = j
    · subst e; rw [if_pos h]; simp
    · have := sentTo_some h j (by omega)
      omega
theorem vec_mem {n : Nat} : ∀ (t : List Sl) (a : Nat), (t.foldl (fun a x => setN a x.desc.node.toNat true) a).testBit n = true → a.testBit n = true ∨ ∃ x ∈ t, x.desc.node.toNat = n
  | [], a, h => .inl h
  | y :: t, a, h => by
    rw [List.foldl_cons] at h
    rcases vec_mem t _ h with h1 | ⟨x, hx, e⟩
    · rw [setN_bit] at h1
      split at h1
      · rename_i e; exact .inr ⟨y, by simp, e.symm⟩
      · exact .inl h1
    · exact .inr ⟨x, by simp [hx], e⟩
theorem findIn_some : ∀ {t : List Nd} {n : Int} {y : Nd}, findIn t n = some y → ∃ i, i < t.length ∧ ndOf t i = y ∧ y.id = n
  | [], _, _, h => by cases h
  | x :: r, n, y, h => by
    rw [findIn] at h
    split at h
    · rename_i e
      cases h
      exact ⟨0, by simp, by simp [ndOf], e⟩
    · obtain ⟨i, hi, e, e2⟩ := findIn_some h
      exact ⟨i + 1, by simpa using hi, by simpa [ndOf] using e, e2⟩
theorem find_node {t : List Nd} (ht : isTable t = true) {n : Int} (h : (findNode t n).2 = 0) : ∃ i, i < t.length ∧ (ndOf t i).id = n ∧ (findNode t n).1 = ndOf t i := by
  unfold findNode at h ⊢
  rw [if_pos ht] at h ⊢
  rcases hq : findIn t n with _ | y
  · rw [hq] at h; cases h
  · obtain ⟨i, hi, e, e2⟩ := findIn_some hq
    exact ⟨i, hi, by rw [e]; exact e2, e.symm⟩
theorem node_bit {t : List Nd} (ht : isTable t = true) {n : Int} (h : (findNode t n).2 = 0) : (0 ≤ n ∧ n ≤ 31) ∧ (actTo t t.length).testBit n.toNat = !(nodePassive t n) := by
  obtain ⟨i, hi, e, e2⟩ := find_node ht h
  have hid := (isNd_iff.1 (table_nd ht hi)).1
  have hb := actTo_bit ht i hi _ (Nat.le_refl _)
  rw [decide_eq_true hi, e, Bool.true_and] at hb
  refine ⟨by omega, ?_⟩
  unfold nodePassive
  rw [hb, e2]
theorem sends_some {m : Me} (W : Well m) {k : Nat} (hk : k < m.modes.length) {n : Int} (h1 : (findNode m.nodes n).2 = 0) (h2 : (findNode m.nodes n).1.pas = false) : ∃ p, p < (inMode m.slots k).length ∧ (slOf (inMode m.slots k) p).desc.node = n := by
  obtain ⟨i, hi, e, e2⟩ := find_node W.r2 h1
  rw [e2] at h2
  have hb := actTo_bit W.r2 i hi _ (Nat.le_refl _)
  rw [h2, decide_eq_true hi] at hb
  have hb : (actv m).testBit (ndOf m.nodes i).id.toNat = true := hb
  have b := md_bounds W.r3 hk
  have h9 := W.r9
  simp only [rule9, List.all_eq_true, List.mem_range] at h9
  have h9 := h9 k hk 0 (by omega)
  simp only [servedRound, decide_eq_true_eq] at h9
  rw [← h9] at hb
  rcases vec_mem _ _ hb with hb | ⟨x, hx, ex⟩
  · simp at hb
  · have hxs := inRound_sub hx
    have hxm : x ∈ inMode m.slots k := by
      unfold inRound at hx
      obtain ⟨g1, g2⟩ := List.mem_filter.1 hx
      simp only [Bool.and_eq_true, decide_eq_true_eq] at g2
      exact List.mem_filter.2 ⟨g1, by simpa using g2.1⟩
    obtain ⟨p, hp, ep⟩ := mem_slOf hxm
    refine ⟨p, hp, ?_⟩
    have hn := sl_node W.r4 hxs
    have hid := (isNd_iff.1 (table_nd W.r2 hi)).1
    rw [ep, ← e]
    omega
theorem sl_dur61 {t : List Sl} (h : isSls t = true) {x : Sl} (hx : x ∈ t) : 61 ≤ x.desc.dur ∧ x.desc.dur ≤ 1000 := by
  obtain ⟨-, -, -, -, h1, h2⟩ := desc_parts (sl_bounds h hx).2.2.2
  have := cells_in x.desc.kind x.desc.size
  omega
theorem sd_ok {m : Me} (W : Well m) {k : Nat} (hk : k < m.modes.length) {n : Int} (h1 : (findNode m.nodes n).2 = 0) (h2 : (findNode m.nodes n).1.pas = false) : SdOk (dursum (inMode m.slots k)) (sentL (inMode m.slots k) n) := by
  have hd := cyc_dur W (k := k)
  have hone : ∀ p, p < (inMode m.slots k).length → 0 ≤ dursum ((inMode m.slots k).take p) ∧ dursum ((inMode m.slots k).take p) + (slOf (inMode m.slots k) p).desc.dur ≤ dursum (inMode m.slots k) ∧ 61 ≤ (slOf (inMode m.slots k) p).desc.dur ∧ (slOf (inMode m.slots k) p).desc.dur ≤ 1000 := by
    intro p hp
    have h3 := sl_dur61 W.r4 (inMode_sub (slOf_mem hp))
    have h4 := dursum_next hp
    have h5 := dur_all hd p
    have h6 := dur_all hd (p + 1)
    omega
  refine ⟨?_, ?_, cyc_sum W hk, fun i hi => ?_, fun i j hij hj => ?_⟩
  · obtain ⟨p, hp, e⟩ := sends_some W hk h1 h2
    exact sentTo_some e _ hp
  · exact Nat.le_trans (sentTo_len _ _ _) (Nat.le_trans (inMode_le _ _) (isSls_iff.1 W.r4).1)
  · obtain ⟨p, hp, -, e⟩ := sentTo_at _ _ _ i hi
    unfold sentL
    rw [e]
    exact hone p hp
  · obtain ⟨p, q, hpq, hq, -, -, e1, e2⟩ := sentTo_up _ _ _ i j hij hj
    unfold sentL
    rw [e1, e2]
    have h4 := dursum_next (t := inMode m.slots k) (k := p) (by omega)
    have h5 := dur_mono hd (show p + 1 ≤ q by omega)
    show dursum ((inMode m.slots k).take p) + (slOf (inMode m.slots k) p).desc.dur ≤ dursum ((inMode m.slots k).take q)
    omega
theorem find_at_ {α : Type} {p : α → Bool} : ∀ {l : List α} {k : Nat} (hk : k < l.length), (∀ i, (h : i < k) → p (l[i]'(by omega)) = false) → p l[k] = true → l.find? p = some l[k]
  | [], k, hk, _, _ => by simp at hk
  | a :: r, 0, _, _, h => by simp at h; simp [h]
  | a :: r, k + 1, hk, h0, h => by
    have ha := h0 0 (by omega)
    simp only [List.getElem_cons_zero] at ha
    rw [List.find?_cons_of_neg (by simp [ha])]
    simp only [List.getElem_cons_succ] at h ⊢
    exact find_at_ (by simpa using hk) (fun i hi => by have := h0 (i + 1) (by omega); simpa using this) h
theorem find_sd {S : List Sd} {p : Sd → Bool} {k : Nat} (hk : k < S.length) (h0 : ∀ i, i < k → p (sdOf S i) = false) (h : p (sdOf S k) = true) : S.find? p = some (sdOf S k) := by
  rw [sdOf_get hk] at h ⊢
  exact find_at_ hk (fun i hi => by have := h0 i hi; rwa [sdOf_get (by omega)] at this) h
theorem find_sd_none {S : List Sd} {p : Sd → Bool} (h0 : ∀ i, i < S.length → p (sdOf S i) = false) : S.find? p = none := by
  rw [List.find?_eq_none]
  intro x hx
  obtain ⟨i, hi, e⟩ := mem_sdOf hx
  rw [← e, h0 i hi]
  simp
theorem sd_first17 {S : List Sd} (p : Sd → Bool) : (∃ k, k < S.length ∧ (∀ i, i < k → p (sdOf S i) = false) ∧ p (sdOf S k) = true) ∨ ∀ i, i < S.length → p (sdOf S i) = false := by
  have key : ∀ n, n ≤ S.length → (∃ k, k < n ∧ (∀ i, i < k → p (sdOf S i) = false) ∧ p (sdOf S k) = true) ∨ ∀ i, i < n → p (sdOf S i) = false := by
    intro n
    induction n with
    | zero => intro _; exact .inr fun i hi => absurd hi (by omega)
    | succ n ih =>
      intro hn
      rcases ih (by omega) with ⟨k, h1, h2, h3⟩ | h
      · exact .inl ⟨k, by omega, h2, h3⟩
      · cases hp : p (sdOf S n) with
        | true => exact .inl ⟨n, by omega, h, hp⟩
        | false =>
          refine .inr fun i hi => ?_
          by_cases e : i = n
          · rw [e]; exact hp
          · exact h i (by omega)
  rcases key S.length (Nat.le_refl _) with ⟨k, h1, h2, h3⟩ | h
  · exact .inl ⟨k, h1, h2, h3⟩
  · exact .inr h
def gapAt (C : Int) (S : List Sd) (i : Nat) : Int := (if i + 1 < S.length then (sdOf S (i + 1)).st else (sdOf S 0).st + C) - (sdOf S i).st
theorem isFrom_iff {t c : Int} {x : Sd} : isFrom t c x = true ↔ t ≤ x.st + c := by simp [isFrom]
theorem isFrom_no {t c : Int} {x : Sd} : isFrom t c x = false ↔ x.st + c < t := by simp [isFrom]
theorem base_low {C t : Int} (h0 : 0 ≤ t) (h1 : t < C) : cyBase C t = 0 := by unfold cyBase; rw [Int.emod_eq_of_lt h0 h1]; omega
section
variable {C : Int} {S A B : List Sd} (h : SdOk C S)
include h
theorem SdOk.pos : 61 ≤ C := by have := h.lo 0 h.ne; omega
theorem SdOk.gap {i : Nat} (hi : i < S.length) : gapAfter C S (sdOf S i) = gapAt C S i := by
  have hl := h.lo i hi
  unfold gapAfter firstFrom gapAt
  rw [base_low (by omega) (by omega)]
  have hno : ∀ k, k < i + 1 → isFrom ((sdOf S i).st + 1) 0 (sdOf S k) = false := by
    intro k hk
    rw [isFrom_no]
    by_cases e : k = i
    · subst e; omega
    · have := h.up k i (by omega) hi
      have := h.lo k (by omega)
      omega
  by_cases hlt : i + 1 < S.length
  · have h3 := h.up i (i + 1) (by omega) hlt
    rw [find_sd hlt hno (isFrom_iff.2 (by omega)), if_pos hlt]
    show (sdOf S (i + 1)).st + 0 - (sdOf S i).st = _
    omega
  · rw [find_sd_none (fun k hk => hno k (by omega)), if_neg hlt]
    show (sdOf S 0).st + (0 + C) - (sdOf S i).st = _
    omega
theorem SdOk.gap_in {i : Nat} (hi : i < S.length) : 1 ≤ gapAt C S i ∧ gapAt C S i ≤ C := by
  have h1 := h.lo i hi
  have h0 := h.lo 0 h.ne
  unfold gapAt
  split
  · rename_i hlt
    have := h.lo (i + 1) hlt
    have := h.up i (i + 1) (by omega) hlt
    omega
  · by_cases e : i = 0
    · subst e; omega
    · have := h.up 0 i (by omega) hi
      omega
theorem SdOk.gaps : gapsL C S = (List.range S.length).map (gapAt C S) := by
  apply List.ext_getElem
  · simp [gapsL]
  · intro i h1 h2
    have hi : i < S.length := by simpa [gapsL] using h1
    have := h.gap hi
    rw [sdOf_get hi] at this
    simp [gapsL, this]
omit h in
theorem gaps_len : (gapsL C S).length = S.length := by simp [gapsL]
theorem SdOk.gaps_at {i : Nat} (hi : i < S.length) : (gapsL C S).getD i 0 = gapAt C S i := by
  rw [h.gaps]; simp [List.getD, hi]
theorem SdOk.gaps_mem {y : Int} (hy : y ∈ gapsL C S) : ∃ i, i < S.length ∧ y = gapAt C S i := by
  rw [h.gaps] at hy
  obtain ⟨i, hi, e⟩ := List.mem_map.1 hy
  exact ⟨i, List.mem_range.1 hi, e.symm⟩
theorem SdOk.gaps_bound {y : Int} (hy : y ∈ gapsL C S) : 1 ≤ y ∧ y ≤ C := by
  obtain ⟨i, hi, rfl⟩ := h.gaps_mem hy
  exact h.gap_in hi
theorem SdOk.top_in : topL (gapsL C S) ∈ gapsL C S ∧ ∀ y ∈ gapsL C S, y ≤ topL (gapsL C S) := topL_in (by rw [gaps_len]; exact h.ne)
theorem SdOk.low_in : lowL (gapsL C S) ∈ gapsL C S ∧ ∀ y ∈ gapsL C S, lowL (gapsL C S) ≤ y := lowL_in (by rw [gaps_len]; exact h.ne)
theorem SdOk.first {t : Int} (_h0 : 0 ≤ t) : t ≤ (firstFrom C S t).st ∧ (firstFrom C S t).st ≤ t + topL (gapsL C S) ∧ 61 ≤ (firstFrom C S t).d.dur ∧ (firstFrom C S t).d.dur ≤ 1000 := by
  have hC := h.pos
  have hq0 := Int.emod_nonneg t (show C ≠ 0 by omega)
  have hq1 := Int.emod_lt_of_pos t (show 0 < C by omega)
  have hgap : ∀ i, i < S.length → gapAt C S i ≤ topL (gapsL C S) := fun i hi => h.top_in.2 _ (by rw [h.gaps]; exact List.mem_map.2 ⟨i, List.mem_range.2 hi, rfl⟩)
  have hlast := hgap (S.length - 1) (by have := h.ne; omega)
  have hl1 := h.lo (S.length - 1) (by have := h.ne; omega)
  have hl0 := h.lo 0 h.ne
  unfold gapAt at hlast
  rw [if_neg (by omega)] at hlast
  unfold firstFrom
  rcases sd_first17 (S := S) (isFrom t (cyBase C t)) with ⟨k, hk, hno, hyes⟩ | hno
  · rw [find_sd hk hno hyes]
    have h1 := isFrom_iff.1 hyes
    have h2 := h.lo k hk
    refine ⟨h1, ?_, h2.2.2.1, h2.2.2.2⟩
    show (sdOf S k).st + cyBase C t ≤ _
    by_cases hk0 : k = 0
    · subst hk0
      unfold cyBase at h1 ⊢
      omega
    · have h3 := isFrom_no.1 (hno (k - 1) (by omega))
      have h4 := hgap (k - 1) (by omega)
      unfold gapAt at h4
      rw [if_pos (by omega), show k - 1 + 1 = k by omega] at h4
      omega
  · rw [find_sd_none hno]
    have h3 := isFrom_no.1 (hno (S.length - 1) (by have := h.ne; omega))
    unfold cyBase at h3 ⊢
    refine ⟨?_, ?_, hl0.2.2.1, hl0.2.2.2⟩
    · show t ≤ (sdOf S 0).st + _
      omega
    · show (sdOf S 0).st + _ ≤ _
      omega
theorem SdOk.first_le {t : Int} (h0 : 0 ≤ t) : t ≤ (firstFrom C S t).st ∧ (firstFrom C S t).st ≤ t + 32000 ∧ 61 ≤ (firstFrom C S t).d.dur ∧ (firstFrom C S t).d.dur ≤ 1000 := by
  obtain ⟨h1, h2, h3, h4⟩ := h.first h0
  have := h.gaps_bound h.top_in.1
  have := h.c1
  exact ⟨h1, by omega, h3, h4⟩
end
def sum17 : List Int → Int
  | [] => 0
  | x :: r => x + sum17 r
theorem sum17_app (a b : List Int) : sum17 (a ++ b) = sum17 a + sum17 b := by
  induction a with
  | nil => simp [sum17]
  | cons x a ih => simp only [List.cons_append, sum17, ih]; omega
theorem SdOk.sum_to {C : Int} {S : List Sd} (h : SdOk C S) : ∀ k, k < S.length → sum17 ((List.range k).map (gapAt C S)) = (sdOf S k).st - (sdOf S 0).st
  | 0, _ => by simp [sum17]
  | k + 1, hk => by
    rw [List.range_succ, List.map_append, sum17_app, h.sum_to k (by omega)]
    simp only [List.map_cons, List.map_nil, sum17, gapAt]
    rw [if_pos hk]
    omega
theorem SdOk.sum {C : Int} {S : List Sd} (h : SdOk C S) : sum17 (gapsL C S) = C := by
  rw [h.gaps]
  obtain ⟨n, hn⟩ : ∃ n, S.length = n + 1 := ⟨S.length - 1, by have := h.ne; omega⟩
  rw [hn, List.range_succ, List.map_append, sum17_app, h.sum_to n (by omega)]
  simp only [List.map_cons, List.map_nil, sum17, gapAt]
  rw [if_neg (by omega)]
  omega
theorem chain_in {C : Int} {A B : List Sd} (hA : SdOk C A) (hB : SdOk C B) {y : Int} (hy : y ∈ chainsL C A B) : 1 ≤ y ∧ y ≤ topL (gapsL C A) + topL (gapsL C B) + 2000 ∧ y ≤ 66000 := by
  unfold chainsL at hy
  obtain ⟨x, hx, rfl⟩ := List.mem_map.1 hy
  obtain ⟨i, hi, rfl⟩ := mem_sdOf hx
  have h0 := hA.lo i hi
  obtain ⟨a1, a2, a3, a4⟩ := hA.first (t := (sdOf A i).st + 1) (by omega)
  have b0 : 0 ≤ (firstFrom C A ((sdOf A i).st + 1)).fin := by unfold Sd.fin; omega
  obtain ⟨b1, b2, b3, b4⟩ := hB.first b0
  have g1 := hA.gaps_bound hA.top_in.1
  have g2 := hB.gaps_bound hB.top_in.1
  have := hA.c1
  unfold chainFrom
  unfold Sd.fin at b1 b2 b3 b4 ⊢
  generalize firstFrom C A ((sdOf A i).st + 1) = q at *
  generalize firstFrom C B (q.st + q.d.dur) = r at *
  refine ⟨by omega, by omega, by omega⟩
theorem chain_law {C : Int} {A B : List Sd} (hA : SdOk C A) (hB : SdOk C B) : topL (gapsL C A) < topL (chainsL C A B) ∧ topL (chainsL C A B) ≤ topL (gapsL C A) + topL (gapsL C B) + 2000 ∧ topL (chainsL C A B) ≤ 66000 := by
  have hne : 0 < (chainsL C A B).length := by simp [chainsL, hA.ne]
  obtain ⟨t1, t2⟩ := topL_in hne
  have t3 := chain_in hA hB t1
  refine ⟨?_, t3.2.1, t3.2.2⟩
  obtain ⟨i, hi, e⟩ := hA.gaps_mem hA.top_in.1
  have hm : chainFrom C A B ((sdOf A i).st + 1) ∈ chainsL C A B := List.mem_map.2 ⟨sdOf A i, sdOf_mem hi, rfl⟩
  have := t2 _ hm
  have hg := hA.gap hi
  rw [← e] at hg
  unfold gapAfter at hg
  have h0 := hA.lo i hi
  obtain ⟨a1, a2, a3, a4⟩ := hA.first (t := (sdOf A i).st + 1) (by omega)
  have b0 : 0 ≤ (firstFrom C A ((sdOf A i).st + 1)).fin := by unfold Sd.fin; omega
  obtain ⟨b1, b2, b3, b4⟩ := hB.first b0
  unfold chainFrom at this
  unfold Sd.fin at b1 b2 b3 b4 this
  generalize firstFrom C A ((sdOf A i).st + 1) = q at *
  generalize firstFrom C B (q.st + q.d.dur) = r at *
  omega
theorem pause_in {t : List Sl} (h : isSls t = true) {x : Sl} (hx : x ∈ t) : pauseOf x.desc = (pauseSl x, 0) ∧ 20 ≤ pauseSl x ∧ pauseSl x ≤ 1000 := by
  have hd := (sl_bounds h hx).2.2.2
  obtain ⟨-, -, -, -, h1, h2⟩ := desc_parts hd
  have := cells_in x.desc.kind x.desc.size
  refine ⟨by unfold pauseOf; rw [if_pos hd]; rfl, ?_, ?_⟩
  · unfold pauseSl; omega
  · unfold pauseSl; omega
end

section
open Go.RowKit
def passB (t : List Nd) (ds : List Int) (k : Nat) : Int := if (ds.take k).any (nodePassive t) = true then 4 else 0
theorem passB_zero (t : List Nd) (ds : List Int) : passB t ds 0 = 0 := by simp [passB]
theorem passB_next {t : List Nd} {ds : List Int} {k : Nat} (h : k < ds.length) : passB t ds (k + 1) = if nodePassive t (ds.getD k 0) = true then 4 else passB t ds k := by
  unfold passB
  rw [take_getD h, List.any_append]
  cases (ds.take k).any (nodePassive t) <;> cases hh : nodePassive t (ds.getD k 0) <;> simp [hh, - List.getD_eq_getElem?_getD]
theorem codeSend_unknown {t : List Nd} {ds : List Int} {k : Nat} (hk : k < ds.length) (h : nodeUnknown t (ds.getD k 0) = true) : codeSend t ds = 2 := by
  unfold codeSend
  rw [if_pos (List.any_eq_true.2 ⟨_, by simp [List.getD, List.getElem?_eq_getElem hk], h⟩)]
theorem codeSend_end {t : List Nd} {ds : List Int} (h : ∀ j, j < ds.length → nodeUnknown t (ds.getD j 0) = false) : codeSend t ds = passB t ds ds.length := by
  unfold codeSend passB
  rw [if_neg, List.take_length]
  rw [List.any_eq_true]
  rintro ⟨x, hx, e⟩
  obtain ⟨j, hj, rfl⟩ := List.getElem_of_mem hx
  have := h j hj
  rw [show ds.getD j 0 = ds[j] by simp [List.getD, hj]] at this
  rw [this] at e
  cases e
set_option maxRecDepth 100000 in
set_option maxHeartbeats 2000000 in
theorem codeOfSenders_any (ao : Option Addr) (n cap : Nat) (t : List Nd) (bo : Option Addr) (k0 kc : Nat) (ds : List Int) (w : World) (hr : RdN w ao n t) (hn : n ≤ cap) (hcap : cap ≤ 9223372036854775807) (hs : smallN t) (hd : Rd w bo k0 ds) (hk0 : k0 ≤ 1048576) :
    Calls Tryz.prog 141 #[.slice ao n cap, .slice bo k0 kc] w fun e w' => e = .returned (.int .i64 (codeSend t ds)) ∧ Below w.heap.size w w' := by
  have HFN := Lib.hid (fun d W (hW : Below w.heap.size w W) => (show Calls Tryz.prog 86 #[.slice ao n cap, .int .i64 d] W fun e w' => e = .returned (.tuple #[ndVal (findNode t d).1, .int .i64 (findNode t d).2]) ∧ Below W.heap.size W w' from findNode_any ao n cap t d W (hr.below hW) hn hcap hs))
  have HD := Lib.hid hd
  have HL := Lib.hid hd.len
  have HZ := Lib.hid (passB_zero t ds)
  have HPN := Lib.hid (fun k (hk : k < k0) => passB_next (t := t) (ds := ds) (k := k) (by rw [hd.len]; exact hk))
  have HUN := Lib.hid (fun k (hk : k < k0) h => codeSend_unknown (t := t) (ds := ds) (k := k) (by rw [hd.len]; exact hk) h)
  have HEN := Lib.hid (fun (h : ∀ j, j < k0 → nodeUnknown t (ds.getD j 0) = false) => codeSend_end (t := t) (ds := ds) (by rw [hd.len]; exact h))
  clear hd hr hn hcap hs
  go_enter Tryz.func141, Tryz.ntmps141
  go_wp2
  go_loopw [5, 12] (fun s i wr => ∃ k : Nat, k ≤ k0 ∧ i = .int .i64 k ∧ s = .int .i64 (passB t ds k) ∧ Hid (∀ j, j < k → nodeUnknown t (ds.getD j 0) = false) ∧ Hid (Below w.heap.size w wr)) (fun _ i _ => k0 - (intOf i).toNat)
  case atStart => exact ⟨0, Nat.zero_le _, rfl, by rw [HZ.out], Lib.hid (fun j h => absurd h (by omega)), Lib.hid (Below.refl _ _)⟩
  case round =>
    obtain ⟨k, hk, rfl, rfl, HU, HB⟩ := hrel
    by_cases hlt : k < k0
    · obtain ⟨b, off, rfl, hx⟩ := HD.out.here (by omega)
      have x0 := hx k hlt
      have hlb : b < w.heap.size := World.block_lt_of_cell? w _ x0
      have x1 : wr.cell? ⟨b, off + k, none⟩ = some (.int .i64 (ds.getD k 0)) := (HB.out.cell (p := ⟨b, off + k, none⟩) hlb).trans x0
      have HN := Lib.hid (HPN.out k hlt)
      have HU2 := Lib.hid (HUN.out k hlt)
      have HNU := Lib.hid (show nodeUnknown t (ds.getD k 0) = decide ((findNode t (ds.getD k 0)).2 ≠ 0) from rfl)
      have HNP := Lib.hid (show nodePassive t (ds.getD k 0) = (findNode t (ds.getD k 0)).1.pas from rfl)
      have HD3 := Lib.hid (show nodeUnknown t (ds.getD k 0) = nodeUnknown t (ds.getD k 0) from rfl)
      generalize hdd : ds.getD k 0 = d at x1 HN HU2 HNU HNP
      conv at HD3 => arg 1; rhs; rw [hdd]
      clear hdd
      clear x0 hx
      have HC := Lib.hid (HFN.out d wr HB.out)
      obtain ⟨x, q, hfn⟩ : ∃ x q, findNode t d = (x, q) := ⟨_, _, rfl⟩
      rw [hfn] at HC HNU HNP
      unfold ndVal at HC
      dsimp only at HC HNU HNP
      clear hfn
      by_cases hq : q = 0
      · subst hq
        have HNU2 := Lib.hid (show nodeUnknown t d = false from HNU.out.trans (by simp))
        clear HNU HU2
        go_wp2_with fail
        refine (HC.out).mono ?_
        rintro e w2 ⟨rfl, b2⟩
        have HB2 := Lib.hid (below_two HB.out b2)
        have HB3 := Lib.hid (below_two HB2.out ((Below.refl w2.heap.size w2).alloc (Nat.le_refl _) (.cells #[.int .i64 x.id, .string x.name, .int .i64 x.drift, .bool x.pas] 130)))
        clear x1 b2 HC HB
        have HU3 := Lib.hid (show ∀ j, j < k + 1 → nodeUnknown t (ds.getD j 0) = false from fun j hj => by
          by_cases e : j = k
          · subst e; exact HD3.out.trans HNU2.out
          · exact HU.out j (by omega))
        cases hp : x.pas
        · have HN2 := Lib.hid (show passB t ds (k + 1) = passB t ds k from HN.out.trans (by rw [HNP.out, hp, if_neg (by simp)]))
          clear HN HNP
          rw [hp] at HB3
          go_wp2_with fail
          go_roundw
          case rel => exact ⟨k + 1, by omega, by go_num, by rw [HN2.out], HU3, HB3⟩
          case measure => simp [intOf]; omega
        · have HN2 := Lib.hid (show passB t ds (k + 1) = 4 from HN.out.trans (by rw [HNP.out, hp, if_pos rfl]))
          clear HN HNP
          rw [hp] at HB3
          go_wp2_with fail
          go_roundw
          case rel => exact ⟨k + 1, by omega, by go_num, by rw [HN2.out], HU3, HB3⟩
          case measure => simp [intOf]; omega
      · have hqb : (q != 0) = true := by simp [hq]
        have HE := Lib.hid (HU2.out (HNU.out.trans (by simp [hq])))
        go_wp2_with fail
        refine (HC.out).mono ?_
        rintro e w2 ⟨rfl, b2⟩
        have HB2 := Lib.hid (below_two HB.out b2)
        have HB3 := Lib.hid (below_two HB2.out ((Below.refl w2.heap.size w2).alloc (Nat.le_refl _) (.cells #[.int .i64 x.id, .string x.name, .int .i64 x.drift, .bool x.pas] 130)))
        clear x1 b2 HC HB
        go_wp2_with fail
        go_ret
        exact ⟨by rw [HE.out]; rfl, HB3.out⟩
    · have hkn : k = k0 := by omega
      subst hkn
      have HE := Lib.hid (HEN.out HU.out)
      go_wp2
      go_ret
      exact ⟨by rw [HE.out, HL.out]; rfl, HB.out⟩
end

section
open Go.RowKit Go.Joins Go.ChangeShapes Go.WideShapes Go.Deep
def sdVal (x : Sd) : Value := .agg #[.int .i64 x.st, .int .i64 x.d.node, .int .i64 x.d.kind, .int .i64 x.d.size, .int .i64 x.d.dur, .bool x.d.chg]
def sdCells (x : Sd) : List Value := [.int .i64 x.st, .int .i64 x.d.node, .int .i64 x.d.kind, .int .i64 x.d.size, .int .i64 x.d.dur, .bool x.d.chg]
structure SdIn (w : World) (b off : Nat) (x : Sd) : Prop where
  c0 : w.cell? ⟨b, off, none⟩ = some (.int .i64 x.st)
  c1 : w.cell? ⟨b, off + 1, none⟩ = some (.int .i64 x.d.node)
  c2 : w.cell? ⟨b, off + 2, none⟩ = some (.int .i64 x.d.kind)
  c3 : w.cell? ⟨b, off + 3, none⟩ = some (.int .i64 x.d.size)
  c4 : w.cell? ⟨b, off + 4, none⟩ = some (.int .i64 x.d.dur)
  c5 : w.cell? ⟨b, off + 5, none⟩ = some (.bool x.d.chg)
def SdBk (T : Nat) (w : World) (b : Nat) (x : Sd) : Prop := w.heap[b]? = some (.cells #[.int .i64 x.st, .int .i64 x.d.node, .int .i64 x.d.kind, .int .i64 x.d.size, .int .i64 x.d.dur, .bool x.d.chg] T (0, 0))
structure RdSd (w : World) (ao : Option Addr) (n : Nat) (t : List Sd) : Prop where
  len : t.length = n
  here : 0 < n → ∃ b off, ao = some ⟨b, off, none⟩ ∧ ∀ i, i < n → SdIn w b (off + i * 6) (sdOf t i)
def OwnSd (E : Nat) (w : World) (base : Nat) (v : Value) (t : List Sd) : Prop := w.ownsRow base E 6 v t.length (t.flatMap sdCells)
section
variable {w w' : World} {E T base n b off : Nat} {ao : Option Addr} {v : Value} {t : List Sd} {x : Sd}
theorem SdIn.lt (h : SdIn w b off x) : b < w.heap.size := World.block_lt_of_cell? w _ h.c0
theorem SdIn.all (h : SdIn w b off x) : w.cell? ⟨b, off, none⟩ = some (.int .i64 x.st) ∧ w.cell? ⟨b, off + 1, none⟩ = some (.int .i64 x.d.node) ∧ w.cell? ⟨b, off + 2, none⟩ = some (.int .i64 x.d.kind) ∧ w.cell? ⟨b, off + 3, none⟩ = some (.int .i64 x.d.size) ∧ w.cell? ⟨b, off + 4, none⟩ = some (.int .i64 x.d.dur) ∧ w.cell? ⟨b, off + 5, none⟩ = some (.bool x.d.chg) := ⟨h.c0, h.c1, h.c2, h.c3, h.c4, h.c5⟩
theorem SdIn.below {B : Nat} (h : SdIn w b off x) (hb : Below B w w') (hlt : b < B) : SdIn w' b off x :=
  ⟨(hb.cell (p := ⟨b, off, none⟩) hlt).trans h.c0, (hb.cell (p := ⟨b, off + 1, none⟩) hlt).trans h.c1, (hb.cell (p := ⟨b, off + 2, none⟩) hlt).trans h.c2, (hb.cell (p := ⟨b, off + 3, none⟩) hlt).trans h.c3, (hb.cell (p := ⟨b, off + 4, none⟩) hlt).trans h.c4, (hb.cell (p := ⟨b, off + 5, none⟩) hlt).trans h.c5⟩
theorem SdIn.grown {g : Option Nat} (h : SdIn w b off x) (hg : w.grownBy w' g) (hne : some b ≠ g) : SdIn w' b off x :=
  ⟨hg.cell h.c0 hne, hg.cell h.c1 hne, hg.cell h.c2 hne, hg.cell h.c3 hne, hg.cell h.c4 hne, hg.cell h.c5 hne⟩
theorem SdBk.in_ (h : SdBk T w b x) : SdIn w b 0 x := ⟨cell_of_row w b 0 _ _ (0, 0) h, cell_of_row w b 1 _ _ (0, 0) h, cell_of_row w b 2 _ _ (0, 0) h, cell_of_row w b 3 _ _ (0, 0) h, cell_of_row w b 4 _ _ (0, 0) h, cell_of_row w b 5 _ _ (0, 0) h⟩
theorem SdBk.all (h : SdBk T w b x) : w.cell? ⟨b, 0, none⟩ = some (.int .i64 x.st) ∧ w.cell? ⟨b, 1, none⟩ = some (.int .i64 x.d.node) ∧ w.cell? ⟨b, 2, none⟩ = some (.int .i64 x.d.kind) ∧ w.cell? ⟨b, 3, none⟩ = some (.int .i64 x.d.size) ∧ w.cell? ⟨b, 4, none⟩ = some (.int .i64 x.d.dur) ∧ w.cell? ⟨b, 5, none⟩ = some (.bool x.d.chg) := ⟨cell_of_row w b 0 _ _ (0, 0) h, cell_of_row w b 1 _ _ (0, 0) h, cell_of_row w b 2 _ _ (0, 0) h, cell_of_row w b 3 _ _ (0, 0) h, cell_of_row w b 4 _ _ (0, 0) h, cell_of_row w b 5 _ _ (0, 0) h⟩
theorem SdBk.f (h : SdBk T w b x) (i : Nat) : w.frozen? ⟨b, i, none⟩ = false := frozen_of_row w b i _ _ h
theorem SdBk.lt (h : SdBk T w b x) : b < w.heap.size := (Array.getElem?_eq_some_iff.1 h).1
theorem SdBk.below {B : Nat} (h : SdBk T w b x) (hb : Below B w w') (hlt : b < B) : SdBk T w' b x := (hb.block b hlt).trans h
theorem SdBk.grown {g : Option Nat} (h : SdBk T w b x) (hg : w.grownBy w' g) (hne : some b ≠ g) : SdBk T w' b x := (hg.block b h.lt hne).trans h
theorem SdBk.new (w : World) : SdBk T (w.alloc (.cells #[.int .i64 x.st, .int .i64 x.d.node, .int .i64 x.d.kind, .int .i64 x.d.size, .int .i64 x.d.dur, .bool x.d.chg] T)) w.heap.size x := heap_alloc_new w _
theorem SdBk.other (h : SdBk T w b x) {q i : Nat} {v : Value} (hne : b ≠ q) : SdBk T (w.setCell ⟨q, i, none⟩ v) b x := (heap_setCell_other _ _ _ _ hne).trans h
theorem SdBk.set0 (h : SdBk T w b x) (y : Int) : SdBk T (w.setCell ⟨b, 0, none⟩ (.int .i64 y)) b ⟨y, x.d⟩ := by
  have := heap_setCell_same w b 0 _ _ (.int .i64 y) h
  simpa [SdBk] using this
theorem SdBk.set1 (h : SdBk T w b x) (y : Int) : SdBk T (w.setCell ⟨b, 1, none⟩ (.int .i64 y)) b ⟨x.st, ⟨y, x.d.kind, x.d.size, x.d.dur, x.d.chg⟩⟩ := by
  have := heap_setCell_same w b 1 _ _ (.int .i64 y) h
  simpa [SdBk] using this
theorem SdBk.set2 (h : SdBk T w b x) (y : Int) : SdBk T (w.setCell ⟨b, 2, none⟩ (.int .i64 y)) b ⟨x.st, ⟨x.d.node, y, x.d.size, x.d.dur, x.d.chg⟩⟩ := by
  have := heap_setCell_same w b 2 _ _ (.int .i64 y) h
  simpa [SdBk] using this
theorem SdBk.set3 (h : SdBk T w b x) (y : Int) : SdBk T (w.setCell ⟨b, 3, none⟩ (.int .i64 y)) b ⟨x.st, ⟨x.d.node, x.d.kind, y, x.d.dur, x.d.chg⟩⟩ := by
  have := heap_setCell_same w b 3 _ _ (.int .i64 y) h
  simpa [SdBk] using this
theorem SdBk.set4 (h : SdBk T w b x) (y : Int) : SdBk T (w.setCell ⟨b, 4, none⟩ (.int .i64 y)) b ⟨x.st, ⟨x.d.node, x.d.kind, x.d.size, y, x.d.chg⟩⟩ := by
  have := heap_setCell_same w b 4 _ _ (.int .i64 y) h
  simpa [SdBk] using this
theorem SdBk.set5 (h : SdBk T w b x) (y : Bool) : SdBk T (w.setCell ⟨b, 5, none⟩ (.bool y)) b ⟨x.st, ⟨x.d.node, x.d.kind, x.d.size, x.d.dur, y⟩⟩ := by
  have := heap_setCell_same w b 5 _ _ (.bool y) h
  simpa [SdBk] using this
def setsd (w : World) (b : Nat) (x : Sd) : World := ((((((w.setCell ⟨b, 0, none⟩ (.int .i64 x.st)).setCell ⟨b, 1, none⟩ (.int .i64 x.d.node)).setCell ⟨b, 2, none⟩ (.int .i64 x.d.kind)).setCell ⟨b, 3, none⟩ (.int .i64 x.d.size)).setCell ⟨b, 4, none⟩ (.int .i64 x.d.dur)).setCell ⟨b, 5, none⟩ (.bool x.d.chg))
theorem SdBk.put (h : SdBk T w b x) (y : Sd) : SdBk T (setsd w b y) b y := (((((h.set0 y.st).set1 y.d.node).set2 y.d.kind).set3 y.d.size).set4 y.d.dur).set5 y.d.chg
theorem below_setsd {B b : Nat} {w : World} (hb : B ≤ b) (x : Sd) : Below B w (setsd w b x) := ((((((Below.refl _ _).setCell hb _).setCell hb _).setCell hb _).setCell hb _).setCell hb _).setCell hb _
theorem RdSd.nil_ : RdSd w ao 0 [] := ⟨rfl, fun h => absurd h (by omega)⟩
theorem RdSd.at (h : RdSd w ao n t) {i : Nat} (hi : i < n) : ∃ b off, ao = some ⟨b, off, none⟩ ∧ b < w.heap.size ∧ SdIn w b (off + i * 6) (sdOf t i) := by
  obtain ⟨b, off, e, hc⟩ := h.here (by omega)
  exact ⟨b, off, e, (hc i hi).lt, hc i hi⟩
theorem RdSd.below (h : RdSd w ao n t) (hb : Below w.heap.size w w') : RdSd w' ao n t :=
  ⟨h.len, fun hn => by
    obtain ⟨b, off, e, hc⟩ := h.here hn
    exact ⟨b, off, e, fun i hi => (hc i hi).below hb (hc i hi).lt⟩⟩
theorem flatSd_get (t : List Sd) (i j : Nat) (hi : i < t.length) (hj : j < 6) : (t.flatMap sdCells)[i * 6 + j]? = (sdCells (sdOf t i))[j]? := by
  induction t generalizing i with
  | nil => simp at hi
  | cons a r ih =>
    cases i with
    | zero =>
      rw [List.flatMap_cons, List.getElem?_append_left (by simp [sdCells]; omega)]
      simp [sdOf]
    | succ i =>
      rw [List.flatMap_cons, List.getElem?_append_right (by simp [sdCells]; omega)]
      rw [show (i + 1) * 6 + j - (sdCells a).length = i * 6 + j from by simp [sdCells]; omega, ih i (by simpa using hi)]
      simp [sdOf]
theorem OwnSd.below (h : OwnSd E w base v t) (hb : Below w.heap.size w w') : OwnSd E w' base v t := ownsRow_below h hb
theorem OwnSd.more (h : OwnSd E w base v t) {base' : Nat} (hb : base' ≤ base) : OwnSd E w base' v t := ownsRow_more h hb
theorem OwnSd.block (h : OwnSd E w base v t) : ∀ k, v.ownBlock = some k → base ≤ k ∧ k < w.heap.size := World.ownsRow.lt h
theorem OwnSd.form (h : OwnSd E w base v t) : ∃ ao cap, v = .slice ao t.length cap ∧ RdSd w ao t.length t ∧ t.length ≤ cap ∧ cap ≤ maxLen ∧ (v = .slice none 0 0 ∨ ∃ g, ao = some ⟨g, 0, none⟩ ∧ base ≤ g ∧ g < w.heap.size) := by
  have h0 := h
  obtain ⟨h1, h2⟩ := h
  rcases h2 with ⟨rfl, h2⟩ | ⟨g, cap, cur, rfl, hg, hh, hn, hcap, hsz, htake⟩
  · have : t = [] := List.length_eq_zero_iff.1 h2
    subst this
    exact ⟨none, 0, rfl, RdSd.nil_, Nat.le_refl _, by unfold maxLen; omega, .inl rfl⟩
  · unfold OwnSd at h0
    have hc : ∀ i j, i < t.length → j < 6 → w.cell? ⟨g, 0 + i * 6 + j, none⟩ = (sdCells (sdOf t i))[j]? := fun i j hi hj => by
      rw [Nat.zero_add, World.ownsRow.cellAt h0 (i * 6 + j) (by omega), flatSd_get t i j hi hj]
    exact ⟨_, cap, rfl, ⟨rfl, fun _ => ⟨g, 0, rfl, fun i hi => ⟨hc i 0 hi (by omega), hc i 1 hi (by omega), hc i 2 hi (by omega), hc i 3 hi (by omega), hc i 4 hi (by omega), hc i 5 hi (by omega)⟩⟩⟩, hn, hcap, .inr ⟨g, rfl, hg, (Array.getElem?_eq_some_iff.1 hh).1⟩⟩
theorem OwnSd.nil_ : OwnSd E w base (.slice none 0 0) [] := World.ownsRow_nil _ _ _ _
theorem OwnSd.get (h : OwnSd E w base v t) : ∃ ao cap, v = .slice ao t.length cap ∧ OwnSd E w base (.slice ao t.length cap) t ∧ RdSd w ao t.length t := by
  obtain ⟨ao, cap, rfl, r, -, -, -⟩ := h.form
  exact ⟨ao, cap, rfl, h, r⟩
theorem OwnSd.only {g : Option Nat} (h : OwnSd E w base v t) (ho : w.grownBy w' g) (hg : v.ownBlock = none ∨ v.ownBlock ≠ g) : OwnSd E w' base v t := World.ownsRow.kept h ho hg
end
abbrev InfoSd (P : Program) (E : Nat) : Prop := (P.info? E).map (fun i => (i.zero, i.size, i.bytes)) = some (some (sdVal Sd.zero), 6, 48)
theorem info_parts_sd {P : Program} {E : Nat} (h : InfoSd P E) : ∃ i, P.info? E = some i ∧ i.zero = some (sdVal Sd.zero) ∧ i.size = 6 ∧ i.bytes = 48 := by
  unfold InfoSd at h
  cases hi : P.info? E with
  | none => rw [hi] at h; cases h
  | some i =>
    rw [hi] at h
    simp only [Option.map_some, Option.some.injEq, Prod.mk.injEq] at h
    exact ⟨i, rfl, h.1, h.2.1, h.2.2⟩
theorem cellsSd_zero : (sdVal Sd.zero).cells = #[.int .i64 0, .int .i64 0, .int .i64 0, .int .i64 0, .int .i64 0, .bool false] := rfl
section
variable {P : Program} {E T : Nat} (w : World) {o : Oper} {a : Act} {Q : Exit → Act → World → Prop} {K : Act → World → Prop}
end
def itSd (E : Nat) (v : Value) (t : List Sd) : It := ⟨v, E, 6, t.length, t.flatMap sdCells⟩
def itsSd (E : Nat) (vs : Nat → Value) (ts : Nat → List Sd) (n : Nat) : List It := (List.range n).map fun i => itSd E (vs i) (ts i)
def putN17 {α : Type} (f : Nat → α) (k : Nat) (x : α) : Nat → α := fun i => if i = k then x else f i
theorem itsSd_split {E : Nat} {vs : Nat → Value} {ts : Nat → List Sd} {k n : Nat} (h : k < n) : itsSd E vs ts n = itsSd E vs ts k ++ itSd E (vs k) (ts k) :: (List.range (n - (k + 1))).map (fun i => itSd E (vs (k + 1 + i)) (ts (k + 1 + i))) := by
  obtain ⟨d, rfl⟩ : ∃ d, n = k + (1 + d) := ⟨n - (k + 1), by omega⟩
  unfold itsSd
  rw [List.range_add, List.map_append, List.range_add, List.map_append, List.map_append]
  rw [show k + (1 + d) - (k + 1) = d by omega]
  simp [List.range_succ, Function.comp_def, Nat.add_assoc]
theorem itsSd_put {E : Nat} {vs : Nat → Value} {ts : Nat → List Sd} {k n : Nat} (h : k < n) (v : Value) (t : List Sd) : itsSd E (putN17 vs k v) (putN17 ts k t) n = itsSd E vs ts k ++ itSd E v t :: (List.range (n - (k + 1))).map (fun i => itSd E (vs (k + 1 + i)) (ts (k + 1 + i))) := by
  rw [itsSd_split h]
  congr 1
  · unfold itsSd
    apply List.map_congr_left
    intro i hi
    rw [List.mem_range] at hi
    simp [putN17, show ¬ i = k by omega]
  · congr 1
    · simp [putN17]
    · apply List.map_congr_left
      intro i hi
      simp [putN17, show ¬ k + 1 + i = k by omega]
theorem Hold.push {w0 w w' : World} (L1 : List It) {L2 : List It} {p q : It} (h : Hold w0 w (L1 ++ p :: L2)) (o : w'.ownsRow w0.heap.size q.E q.sz q.v q.n q.cells) (g : w.grownBy w' p.v.ownBlock) (hb : p.v.ownBlock = q.v.ownBlock ∨ q.v.ownBlock = some w.heap.size) : Hold w0 w' (L1 ++ q :: L2) := by
  have ho := h.own
  have ha := h.apart
  have hk0 : ∀ k, p.v.ownBlock = some k → w0.heap.size ≤ k := fun k hk => (World.ownsRow.lt (ho p (by simp)) k hk).1
  refine ⟨h.below.grown g h.below.size hk0, fun r hr => ?_, ?_⟩
  · rw [List.mem_append, List.mem_cons] at hr
    rw [List.pairwise_append, List.pairwise_cons] at ha
    rcases hr with hr | rfl | hr
    · refine World.ownsRow.kept (ho r (by simp [hr])) g ?_
      cases hk : r.v.ownBlock with
      | none => exact .inl rfl
      | some k => exact .inr (fun e => ha.2.2 r hr p (by simp) k hk e.symm)
    · exact o
    · refine World.ownsRow.kept (ho r (by simp [hr])) g ?_
      cases hk : r.v.ownBlock with
      | none => exact .inl rfl
      | some k => exact .inr (fun e => ha.2.1.1 r hr k e.symm hk)
  · rw [List.pairwise_append, List.pairwise_cons] at ha ⊢
    refine ⟨ha.1, ⟨fun r hr k hk e => ?_, ha.2.1.2⟩, fun r hr s hs k hk => ?_⟩
    · rcases hb with hb | hb
      · exact ha.2.1.1 r hr k (hb ▸ hk) e
      · have h1 := (World.ownsRow.lt (ho r (by simp [hr])) k e).2
        rw [hb] at hk
        cases hk
        omega
    · rcases List.mem_cons.1 hs with rfl | hs
      · intro e
        rcases hb with hb | hb
        · exact ha.2.2 r hr p (by simp) k hk (hb ▸ e)
        · have h1 := (World.ownsRow.lt (ho r (by simp [hr])) k hk).2
          rw [hb] at e
          cases e
          omega
      · exact ha.2.2 r hr s (by simp [hs]) k hk
theorem Hold.pushSd {w0 w w' : World} {E k n : Nat} {vs : Nat → Value} {ts : Nat → List Sd} {v : Value} {t : List Sd} (h : Hold w0 w (itsSd E vs ts n)) (hk : k < n) (o : OwnSd E w' w0.heap.size v t) (g : w.grownBy w' (vs k).ownBlock) (hb : (vs k).ownBlock = v.ownBlock ∨ v.ownBlock = some w.heap.size) : Hold w0 w' (itsSd E (putN17 vs k v) (putN17 ts k t) n) := by
  rw [itsSd_split hk] at h
  rw [itsSd_put hk]
  exact Hold.push (p := itSd E (vs k) (ts k)) (q := itSd E v t) _ h o g hb
theorem Hold.sd {w0 w : World} {E k n : Nat} {vs : Nat → Value} {ts : Nat → List Sd} (h : Hold w0 w (itsSd E vs ts n)) (hk : k < n) : OwnSd E w w0.heap.size (vs k) (ts k) :=
  h.own (itSd E (vs k) (ts k)) (List.mem_map.2 ⟨k, List.mem_range.2 hk, rfl⟩)
theorem Hold.startSd {w : World} {E n : Nat} : Hold w w (itsSd E (fun _ => .slice none 0 0) (fun _ => []) n) := by
  refine ⟨Below.refl _ _, fun p hp => ?_, ?_⟩
  · obtain ⟨i, -, rfl⟩ := List.mem_map.1 hp
    exact (OwnSd.nil_ : OwnSd E w w.heap.size (.slice none 0 0) [])
  · unfold itsSd
    rw [List.pairwise_map]
    exact List.Pairwise.imp (fun _ k e => by cases e) List.pairwise_lt_range
section
variable {P : Program} {E T : Nat} (w : World) {ops : Array Oper} {rest : List Oper} {o : Oper} {a : Act} {Q : Exit → Act → World → Prop} {K : Act → World → Prop}
theorem lies_sd (s x : Operand)
    (ho : o.op = .call { callee := .builtin .append, args := #[s, x], argTypes := #[T, T] })
    (base : Nat) (ht : P.underlying T = some (.slice E)) (hi : InfoSd P E)
    (v : Value) (t : List Sd) (hs : a.eval s = v) (hown : OwnSd E w base v t) (b off : Nat) (y : Sd) (c : Nat) (hx : a.eval x = .slice (some ⟨b, off, none⟩) 1 c) (hc : SdIn w b off y)
    (hlen : t.length ≤ 1073741824) (hbase : base ≤ w.heap.size)
    (h : ∀ v' w', OwnSd E w' base v' (t ++ [y]) → w.grownBy w' v.ownBlock → (v.ownBlock = v'.ownBlock ∨ v'.ownBlock = some w.heap.size) → K (a.put o.dst v') w') : o.wp P a w K Q := by
  obtain ⟨i0, hi, hz0, hz1, hz2⟩ := info_parts_sd hi
  refine wp_append_lies w s x T ho base E i0 (sdVal Sd.zero) 6 48 ht hi hz0 hz1 hz2 (by rw [cellsSd_zero]; rfl) (by decide) v t.length (t.flatMap sdCells) hs hown ⟨b, off, none⟩ 1 c (sdCells y) hx rfl ?_ ?_ (by decide) (by unfold maxLen; omega) (by omega) hbase w.heap.size rfl ?_
  · intro j u hj
    match j, hj with
    | 0, hj => simp [sdCells] at hj; subst hj; simpa [Addr.add] using hc.c0
    | 1, hj => simp [sdCells] at hj; subst hj; simpa [Addr.add] using hc.c1
    | 2, hj => simp [sdCells] at hj; subst hj; simpa [Addr.add] using hc.c2
    | 3, hj => simp [sdCells] at hj; subst hj; simpa [Addr.add] using hc.c3
    | 4, hj => simp [sdCells] at hj; subst hj; simpa [Addr.add] using hc.c4
    | 5, hj => simp [sdCells] at hj; subst hj; simpa [Addr.add] using hc.c5
    | j + 6, hj => simp [sdCells] at hj
  · intro u hu; simp [sdCells] at hu; rcases hu with rfl | rfl | rfl | rfl | rfl | rfl <;> rfl
  · intro g cap w' h1 h2 h3 _
    refine h _ w' ?_ h2 ?_
    · unfold OwnSd
      rw [List.length_append, List.flatMap_append]
      simpa using h1
    · rcases h3 with h3 | h3
      · exact .inl h3
      · exact .inr (by rw [h3]; rfl)
end
theorem Hold.ne_sd {w0 w : World} {E k n T b : Nat} {vs : Nat → Value} {ts : Nat → List Sd} {cur : Array Value} {fz : Nat × Nat} (h : Hold w0 w (itsSd E vs ts n)) (hk : k < n) (hb : w.heap[b]? = some (.cells cur T fz)) (hne : T ≠ E) : some b ≠ (vs k).ownBlock := ownsRow_ne (h.sd hk) hb hne
end

section
open Go.RowKit
theorem infoSd : InfoSd Tryz.prog 141 := by unfold InfoSd; kernel_rfl
def TmAt (w : World) (b : Nat) (C : Int) (vs : Nat → Value) : Prop := w.heap[b]? = some (.cells (Value.int .i64 C :: (List.range 32).map vs).toArray 139 (0, 0))
section
variable {w w' : World} {b : Nat} {C : Int} {vs : Nat → Value}
theorem TmAt.lt (h : TmAt w b C vs) : b < w.heap.size := (Array.getElem?_eq_some_iff.1 h).1
theorem TmAt.c0 (h : TmAt w b C vs) : w.cell? ⟨b, 0, none⟩ = some (.int .i64 C) := cell_of_row w b 0 _ _ (0, 0) h
theorem TmAt.f (h : TmAt w b C vs) (i : Nat) : w.frozen? ⟨b, i, none⟩ = false := frozen_of_row w b i _ _ h
theorem TmAt.at (h : TmAt w b C vs) {n : Nat} (hn : n < 32) : w.cell? ⟨b, 1 + n, none⟩ = some (vs n) := by
  rw [cell_of_row w b (1 + n) _ _ (0, 0) h]
  rw [Nat.add_comm]
  simp [hn]
theorem TmAt.below {B : Nat} (h : TmAt w b C vs) (hb : Below B w w') (hlt : b < B) : TmAt w' b C vs := (hb.block b hlt).trans h
theorem TmAt.grown {g : Option Nat} (h : TmAt w b C vs) (hg : w.grownBy w' g) (hne : some b ≠ g) : TmAt w' b C vs := (hg.block b h.lt hne).trans h
theorem TmAt.put (h : TmAt w b C vs) {n : Nat} (hn : n < 32) (v : Value) : TmAt (w.setCell ⟨b, 1 + n, none⟩ v) b C (putN17 vs n v) := by
  have := heap_setCell_same w b (1 + n) _ _ v h
  unfold TmAt
  rw [this]
  rw [Nat.add_comm, List.setIfInBounds_toArray, List.set_cons_succ]
  have key : ((List.range 32).map vs).set n v = (List.range 32).map (putN17 vs n v) := by
    apply List.ext_getElem?
    intro i
    simp only [List.getElem?_set, List.getElem?_map, List.length_map, List.length_range]
    by_cases e : n = i
    · subst e
      simp [hn, putN17]
    · by_cases hi : i < 32
      · simp [e, hi, putN17, show ¬ i = n by omega]
      · simp [e, hi]
  rw [key]
end
structure RdTm (w : World) (b : Nat) (C : Int) (ts : Nat → List Sd) : Prop where
  all : ∃ vs, TmAt w b C vs ∧ ∀ n, n < 32 → ∃ ao cap, vs n = .slice ao (ts n).length cap ∧ RdSd w ao (ts n).length (ts n) ∧ (ts n).length ≤ cap ∧ cap ≤ 9223372036854775807
section
variable {w w' : World} {b : Nat} {C : Int} {ts : Nat → List Sd}
theorem RdTm.below (h : RdTm w b C ts) (hb : Below w.heap.size w w') : RdTm w' b C ts := by
  obtain ⟨vs, h1, h2⟩ := h.all
  refine ⟨vs, h1.below hb h1.lt, fun n hn => ?_⟩
  obtain ⟨ao, cap, e, r, q⟩ := h2 n hn
  exact ⟨ao, cap, e, r.below hb, q⟩
theorem RdTm.lt (h : RdTm w b C ts) : b < w.heap.size := by obtain ⟨vs, h1, -⟩ := h.all; exact h1.lt
theorem RdTm.c0 (h : RdTm w b C ts) : w.cell? ⟨b, 0, none⟩ = some (.int .i64 C) := by obtain ⟨vs, h1, -⟩ := h.all; exact h1.c0
theorem RdTm.at (h : RdTm w b C ts) {n : Nat} (hn : n < 32) : ∃ ao cap, w.cell? ⟨b, 1 + n, none⟩ = some (.slice ao (ts n).length cap) ∧ RdSd w ao (ts n).length (ts n) ∧ (ts n).length ≤ cap ∧ cap ≤ 9223372036854775807 := by
  obtain ⟨vs, h1, h2⟩ := h.all
  obtain ⟨ao, cap, e, r, q⟩ := h2 n hn
  exact ⟨ao, cap, by rw [h1.at hn, e], r, q⟩
end
theorem own_cell17 {E base : Nat} {w : World} {ga oa n c k : Nat} {xs : List Int} (h : Own E w base (.slice (some ⟨ga, oa, none⟩) n c) xs) (hk : k < xs.length) : w.cell? ⟨ga, oa + k, none⟩ = some (.int .i64 (xs.getD k 0)) := by
  obtain ⟨ao, cap, e, -, r⟩ := h.get
  obtain ⟨b, off, e2, hx⟩ := r.here (by omega)
  rw [e2] at e
  cases e
  exact hx k hk
theorem own_some17 {E base : Nat} {w : World} {ao : Option Addr} {n c : Nat} {xs : List Int} (h : Own E w base (.slice ao n c) xs) (h0 : 0 < xs.length) : ∃ ga oa, ao = some ⟨ga, oa, none⟩ := by
  obtain ⟨ao', cap, e, -, r⟩ := h.get
  cases e
  obtain ⟨b, off, e2, hx⟩ := r.here h0
  exact ⟨b, off, e2⟩
theorem Hold.setSd {w0 w : World} {E n T b : Nat} {vs : Nat → Value} {ts : Nat → List Sd} {cur : Array Value} {fz : Nat × Nat} (h : Hold w0 w (itsSd E vs ts n)) (hb : w.heap[b]? = some (.cells cur T fz)) (hne : T ≠ E) (hlo : w0.heap.size ≤ b) (j : Nat) (v : Value) : Hold w0 (w.setCell ⟨b, j, none⟩ v) (itsSd E vs ts n) := by
  refine ⟨h.below.setCell hlo v, fun p hp => ?_, h.apart⟩
  have hp2 := hp
  obtain ⟨k, hk, rfl⟩ := List.mem_map.1 hp2
  exact World.ownsRow.kept (h.own _ hp) (grown_set w b j v) (.inr (fun e => h.ne_sd (List.mem_range.1 hk) hb hne e.symm))
theorem Hold.congrSd {w0 w : World} {E n : Nat} {vs : Nat → Value} {ts us : Nat → List Sd} (h : Hold w0 w (itsSd E vs ts n)) (e : ∀ i, ts i = us i) : Hold w0 w (itsSd E vs us n) := by
  rw [show us = ts from funext fun i => (e i).symm]
  exact h
theorem rows_apart17 {w : World} {b1 b2 E E' s1 s2 n n' : Nat} {v v' : Value} {c c' : List Value} (h : w.ownsRow b1 E s1 v n c) (h' : w.ownsRow b2 E' s2 v' n' c') (hne : E ≠ E') : v.ownBlock = none ∨ v.ownBlock ≠ v'.ownBlock := by
  rcases h.2 with ⟨rfl, -⟩ | ⟨g, cap, cur, rfl, -, hg, -⟩
  · exact .inl rfl
  · exact .inr (fun e => ownsRow_ne h' hg hne (by simpa [Value.ownBlock] using e))
theorem ne_blk17 {w : World} {b b' T T' : Nat} {c c' : Array Value} {f f' : Nat × Nat} (h : w.heap[b]? = some (.cells c T f)) (h' : w.heap[b']? = some (.cells c' T' f')) (hne : T ≠ T') : some b ≠ some b' := fun e => by
  cases e
  rw [h] at h'
  cases h'
  exact hne rfl
theorem step_sd17 {E9 : List Sl} {k nd : Nat} {z : Int} {d : Ds} (h : ∀ n : Int, sentTo E9 n (k + 1) = sentTo E9 n k ++ if (nd : Int) = n then [⟨z, d⟩] else []) : ∀ i, putN17 (fun n : Nat => sentTo E9 (n : Int) k) nd (sentTo E9 (nd : Int) k ++ [⟨z, d⟩]) i = sentTo E9 (i : Int) (k + 1) := by
  intro i
  rw [h]
  unfold putN17
  by_cases e : i = nd
  · subst e; simp
  · rw [if_neg e, if_neg (by omega), List.append_nil]
set_option linter.unusedSimpArgs false in
set_option maxRecDepth 100000 in
set_option maxHeartbeats 4000000 in
theorem timingOf_any (v : Mv) (k : Int) (bo : Option Addr) (k0 kc : Nat) (ds : List Int) (w : World) (hr : RdMe w v) (hd : Rd w bo k0 ds) (hk0 : k0 ≤ 1048576) :
    Calls Tryz.prog 88 #[mvVal v, .int .i64 k, .slice bo k0 kc] w fun e w' => Below w.heap.size w w' ∧ ((codeAn v.me k ds ≠ 0 ∧ e = .returned (.tuple #[.pointer none, .int .i64 (codeAn v.me k ds)])) ∨ (codeAn v.me k ds = 0 ∧ ∃ b, e = .returned (.tuple #[.pointer (some ⟨b, 0, none⟩), .int .i64 0]) ∧ RdTm w' b (cyc17 v.me k) (fun n => sent17 v.me k (n : Int)))) := by
  have HX := Lib.hid (Bx.start (T := 28) hr)
  have HC := Lib.hid (fun W hW => codeMe_any v k W hW)
  by_cases hc : codeMe v.me k = 0
  rotate_left
  · have HA := Lib.hid (show codeAn v.me k ds = codeMe v.me k from by unfold codeAn; rw [show codeLm v.me k = codeMe v.me k from rfl, if_neg hc])
    have HNZ := Lib.hid hc
    generalize codeMe v.me k = c at HC hc HA HNZ ⊢
    have hcb : (c != 0) = true := by simp [hc]
    clear hr hc hd
    unfold mvVal at HC ⊢
    go_enter Tryz.func88, Tryz.ntmps88
    go_upto_region 1 with fail
    generalize w.alloc (.cells #[.int .i64 v.id, .slice v.no v.n.length v.nc, .slice v.mo v.cs.length v.mc, .slice v.eo v.e.length v.ec] 28) = w1 at HX ⊢
    obtain ⟨z0, z1, z2, z3⟩ := HX.out.at_.all
    go_wp2_with fail
    refine (HC.out _ HX.out.rd).mono ?_
    rintro e w2 ⟨rfl, b2⟩
    clear z0 z1 z2 z3
    go_wp2_with fail
    go_ret2
    exact ⟨(HX.out.call b2).below, .inl ⟨by rw [HA.out]; exact HNZ.out, by rw [HA.out]; rfl⟩⟩
  rw [hc] at HC
  obtain ⟨j, rfl, hj, hm, -, -⟩ := codeMe_yes hc
  have hw := medl_iff.1 hm
  have hjc : j < v.cs.length := by have e : v.me.modes.length = v.cs.length := mds_len v.cs; omega
  have HSN := Lib.hid (fun W (hW : RdMe W v) (hb : Below w.heap.size w W) => codeOfSenders_any v.no v.n.length v.nc v.n bo k0 kc ds W hW.rn hW.nle hW.ncap hW.ns (hd.below hb) hk0)
  have HA := Lib.hid (show codeAn v.me (j : Int) ds = codeSend v.n ds from by unfold codeAn; rw [show codeLm v.me (j : Int) = codeMe v.me (j : Int) from rfl, if_pos hc]; rfl)
  by_cases hq : codeSend v.n ds = 0
  rotate_left
  · have HNZ := Lib.hid hq
    generalize codeSend v.n ds = q at HSN hq HA HNZ ⊢
    have hqb : (q != 0) = true := by simp [hq]
    clear hr hc hd hm hw hj hjc hq
    unfold mvVal at HC ⊢
    go_enter Tryz.func88, Tryz.ntmps88
    go_upto_region 1 with fail
    generalize w.alloc (.cells #[.int .i64 v.id, .slice v.no v.n.length v.nc, .slice v.mo v.cs.length v.mc, .slice v.eo v.e.length v.ec] 28) = w1 at HX ⊢
    obtain ⟨z0, z1, z2, z3⟩ := HX.out.at_.all
    go_wp2_with fail
    refine (HC.out _ HX.out.rd).mono ?_
    rintro e w2 ⟨rfl, b2⟩
    have HX2 := Lib.hid (HX.out.call b2)
    clear z0 z1 z2 z3 b2 HX
    obtain ⟨z0, z1, z2, z3⟩ := HX2.out.at_.all
    go_wp2_with fail
    refine (HSN.out _ HX2.out.rd HX2.out.below).mono ?_
    rintro e w3 ⟨rfl, b3⟩
    clear z0 z1 z2 z3
    go_wp2_with fail
    go_ret2
    exact ⟨(HX2.out.call b3).below, .inl ⟨by rw [HA.out]; exact HNZ.out, by rw [HA.out]; rfl⟩⟩
  rw [hq] at HSN HA
  have HCY := Lib.hid (fun W (hW : RdMe W v) => cycleOf_any v j W hW hw.full hjc)
  have hle : (inMode v.e j).length ≤ 120 := Nat.le_trans (inMode_le v.e j) (isSls_iff.1 hw.r4).1
  have HTI := Lib.hid (fun ao n c W (hW : RdE W ao n (inMode v.e j)) (hn : n ≤ 1048576) => timeOf_any ao n c (inMode v.e j) W hW hn (cyc_dur hw))
  have HST := Lib.hid (fun ao n c W (hW : RdE W ao n (inMode v.e j)) (hn : n ≤ 4096) => startsIn_any ao n c (inMode v.e j) W hW hn (cyc_dur hw))
  have HAT := Lib.hid (fun i (hi : i ≤ (inMode v.e j).length) => startsL_at hi)
  have hln := startsL_len (inMode v.e j)
  have HND := Lib.hid (fun i (hi : i < (inMode v.e j).length) => (show 0 ≤ (slOf (inMode v.e j) i).desc.node ∧ (slOf (inMode v.e j) i).desc.node ≤ 31 from sl_node hw.r4 (inMode_sub (slOf_mem hi))))
  have HTM := Lib.hid (show ∀ w' b, RdTm w' b (dursum (inMode v.e j)) (fun n => sentL (inMode v.e j) (n : Int)) → RdTm w' b (cyc17 v.me (j : Int)) (fun n => sent17 v.me (j : Int) (n : Int)) from fun _ _ h => h)
  generalize cyc17 v.me (j : Int) = C9 at HTM ⊢
  generalize (fun n : Nat => sent17 v.me (j : Int) (n : Int)) = T9 at HTM ⊢
  have HSE := Lib.hid (fun nd => (fun i => sentTo_len (inMode v.e j) nd i : ∀ i, (sentTo (inMode v.e j) nd i).length ≤ i))
  change Hid (∀ ao n c W, RdE W ao n (inMode v.e j) → n ≤ 1048576 → _) at HTI
  generalize inMode v.e j = E9 at HCY HTI HST HAT HND HTM hle hln HSE ⊢
  generalize hA9 : startsL E9 = A9 at HST HAT hln
  clear hA9 hq hc hm hw hj hjc hr hd
  unfold mvVal at HC HCY ⊢
  go_enter Tryz.func88, Tryz.ntmps88
  go_upto_region 1 with fail
  generalize w.alloc (.cells #[.int .i64 v.id, .slice v.no v.n.length v.nc, .slice v.mo v.cs.length v.mc, .slice v.eo v.e.length v.ec] 28) = w1 at HX ⊢
  obtain ⟨z0, z1, z2, z3⟩ := HX.out.at_.all
  go_wp2_with fail
  refine (HC.out _ HX.out.rd).mono ?_
  rintro e w2 ⟨rfl, b2⟩
  have HX2 := Lib.hid (HX.out.call b2)
  clear z0 z1 z2 z3 b2 HX
  obtain ⟨z0, z1, z2, z3⟩ := HX2.out.at_.all
  go_wp2_with fail
  refine (HSN.out _ HX2.out.rd HX2.out.below).mono ?_
  rintro e w3 ⟨rfl, b3⟩
  have HX3 := Lib.hid (HX2.out.call b3)
  clear z0 z1 z2 z3 b3 HX2
  obtain ⟨z0, z1, z2, z3⟩ := HX3.out.at_.all
  go_wp2_with fail
  refine (HCY.out _ HX3.out.rd).mono ?_
  rintro e w4 ⟨so, sc, rfl, srd, -, -, b4⟩
  have HB4 := Lib.hid (HX3.out.call b4).below
  have HS4 := Lib.hid srd
  clear z0 z1 z2 z3 b4 srd HX3
  go_wp2_with fail
  refine (HTI.out _ _ _ _ HS4.out (by omega)).mono ?_
  rintro e w5 ⟨rfl, b5⟩
  have HB5 := Lib.hid (below_two HB4.out b5)
  have HS5 := Lib.hid (HS4.out.below b5)
  clear b5 HB4 HS4
  go_upto_region 9 with fail
  have HT6 := Lib.hid (show TmAt (w5.alloc (.cells #[.int .i64 (dursum E9), .slice none 0 0, .slice none 0 0, .slice none 0 0, .slice none 0 0, .slice none 0 0, .slice none 0 0, .slice none 0 0, .slice none 0 0, .slice none 0 0, .slice none 0 0, .slice none 0 0, .slice none 0 0, .slice none 0 0, .slice none 0 0, .slice none 0 0, .slice none 0 0, .slice none 0 0, .slice none 0 0, .slice none 0 0, .slice none 0 0, .slice none 0 0, .slice none 0 0, .slice none 0 0, .slice none 0 0, .slice none 0 0, .slice none 0 0, .slice none 0 0, .slice none 0 0, .slice none 0 0, .slice none 0 0, .slice none 0 0, .slice none 0 0] 139)) w5.heap.size (dursum E9) (fun _ => .slice none 0 0) from heap_alloc_new w5 _)
  have bT := (Below.refl w5.heap.size w5).alloc (Nat.le_refl _) (.cells #[.int .i64 (dursum E9), .slice none 0 0, .slice none 0 0, .slice none 0 0, .slice none 0 0, .slice none 0 0, .slice none 0 0, .slice none 0 0, .slice none 0 0, .slice none 0 0, .slice none 0 0, .slice none 0 0, .slice none 0 0, .slice none 0 0, .slice none 0 0, .slice none 0 0, .slice none 0 0, .slice none 0 0, .slice none 0 0, .slice none 0 0, .slice none 0 0, .slice none 0 0, .slice none 0 0, .slice none 0 0, .slice none 0 0, .slice none 0 0, .slice none 0 0, .slice none 0 0, .slice none 0 0, .slice none 0 0, .slice none 0 0, .slice none 0 0, .slice none 0 0] 139)
  have HH6 := Lib.hid ((Hold.startSd (w := w5) (E := 141) (n := 32)).still bT)
  clear bT
  generalize w5.alloc (.cells #[.int .i64 (dursum E9), .slice none 0 0, .slice none 0 0, .slice none 0 0, .slice none 0 0, .slice none 0 0, .slice none 0 0, .slice none 0 0, .slice none 0 0, .slice none 0 0, .slice none 0 0, .slice none 0 0, .slice none 0 0, .slice none 0 0, .slice none 0 0, .slice none 0 0, .slice none 0 0, .slice none 0 0, .slice none 0 0, .slice none 0 0, .slice none 0 0, .slice none 0 0, .slice none 0 0, .slice none 0 0, .slice none 0 0, .slice none 0 0, .slice none 0 0, .slice none 0 0, .slice none 0 0, .slice none 0 0, .slice none 0 0, .slice none 0 0, .slice none 0 0] 139) = w6 at HT6 HH6 ⊢
  obtain ⟨b, hbe⟩ : ∃ b, b = w5.heap.size := ⟨_, rfl⟩
  rw [← hbe] at HT6 ⊢
  have HBE := Lib.hid (Nat.le_of_eq hbe.symm)
  clear hbe
  go_wp2_with fail
  refine (HST.out _ _ _ _ (HS5.out.below HH6.out.below) (by omega)).mono ?_
  rintro e w7 ⟨rv, rfl, ro, b7⟩
  obtain ⟨ra, rc, rfl, ro2, -⟩ := ro.get
  obtain ⟨ga, oa, rfl⟩ := own_some17 ro2 (by omega)
  have HT7 := Lib.hid (HT6.out.below b7 HT6.out.lt)
  have HH7 := Lib.hid (HH6.out.still b7)
  have HO7 := Lib.hid (Own.more ro2 HH6.out.below.size)
  clear ro ro2 b7 HT6 HH6
  go_wp2_with fail
  go_loopw [39] (fun i wr => ∃ (k : Nat) (vs : Nat → Value), k ≤ E9.length ∧ i = .int .i64 k ∧ Hid (TmAt wr b (dursum E9) vs) ∧ Hid (Hold w5 wr (itsSd 141 vs (fun n => sentTo E9 (n : Int) k) 32)) ∧ Hid (Own 2 wr w5.heap.size (.slice (some ⟨ga, oa, none⟩) A9.length rc) A9)) (fun i _ => E9.length - (intOf i).toNat)
  case atStart => exact ⟨0, _, Nat.zero_le _, rfl, HT7, HH7, HO7⟩
  case round =>
    clear HT7 HH7 HO7
    obtain ⟨k, vs, hk, rfl, HT, HH, HO⟩ := hrel
    by_cases hlt : k < E9.length
    · obtain ⟨bb, off, e0, hg, hx⟩ := (HS5.out.below HH.out.below).at hlt
      subst e0
      have HNX : Hid (∀ nd : Int, sentTo E9 nd (k + 1) = sentTo E9 nd k ++ if (slOf E9 k).desc.node = nd then [⟨dursum (E9.take k), (slOf E9 k).desc⟩] else []) := Lib.hid (fun _ => rfl)
      have HN1 := HND.out k hlt
      have HAK := Lib.hid (HAT.out k (by omega))
      generalize slOf E9 k = y at hx HNX HN1
      obtain ⟨ym, yr, ys, yn, yk, yz, yd, yc⟩ := y
      replace HN1 : 0 ≤ yn ∧ yn ≤ 31 := HN1
      replace HNX : Hid (∀ nd : Int, sentTo E9 nd (k + 1) = sentTo E9 nd k ++ if yn = nd then [⟨dursum (E9.take k), ⟨yn, yk, yz, yd, yc⟩⟩] else []) := HNX
      obtain ⟨nd, rfl⟩ : ∃ nd : Nat, yn = (nd : Int) := ⟨yn.toNat, by omega⟩
      have hn32 : nd < 32 := by omega
      clear HN1
      generalize dursum (E9.take k) = z at HNX HAK
      obtain ⟨x0, x1, x2, x3, x4, x5, x6, x7⟩ := hx.all8
      (try dsimp only at x0 x1 x2 x3 x4 x5 x6 x7)
      have bal := (Below.refl wr.heap.size wr).alloc (Nat.le_refl _) (.cells #[.int .i64 ym, .int .i64 yr, .int .i64 ys, .int .i64 (nd : Int), .int .i64 yk, .int .i64 yz, .int .i64 yd, .bool yc] 65)
      have HX1 := Lib.hid (SlBk.new (T := 65) (x := ⟨ym, yr, ys, ⟨(nd : Int), yk, yz, yd, yc⟩⟩) wr)
      have HT1 := Lib.hid (HT.out.below bal HT.out.lt)
      have HH1 := Lib.hid (HH.out.still bal)
      have HO1 := Lib.hid (HO.out.below bal)
      clear bal hx HT HH HO
      go_upto_region 13 with fail
      clear x0 x1 x2 x3 x4 x5 x6 x7
      generalize wr.alloc (.cells #[.int .i64 ym, .int .i64 yr, .int .i64 ys, .int .i64 (nd : Int), .int .i64 yk, .int .i64 yz, .int .i64 yd, .bool yc] 65) = w8 at HX1 HT1 HH1 HO1 ⊢
      have bD := Below.drew (Below.refl w8.heap.size w8)
      have HX2 := Lib.hid (HX1.out.below bD HX1.out.lt)
      have HT2 := Lib.hid (HT1.out.below bD HT1.out.lt)
      have HH2 := Lib.hid (HH1.out.still bD)
      have HO2 := Lib.hid (HO1.out.below bD)
      clear bD HX1 HT1 HH1 HO1
      have hkA : k < A9.length := by omega
      have hn32i : (nd : Int) < 32 := by omega
      have hkAi : (k : Int) < (E9.length : Int) + 1 := by omega
      obtain ⟨va, vc, hva, -, -⟩ := (HH2.out.sd hn32).get
      have HVA := Lib.hid hva
      have HLN := Lib.hid (HSE.out (nd : Int) k)
      have hq : (w8.drew).cell? ⟨wr.heap.size, 3, none⟩ = some (.int .i64 (nd : Int)) ∧ (w8.drew).cell? ⟨wr.heap.size, 4, none⟩ = some (.int .i64 yk) ∧ (w8.drew).cell? ⟨wr.heap.size, 5, none⟩ = some (.int .i64 yz) ∧ (w8.drew).cell? ⟨wr.heap.size, 6, none⟩ = some (.int .i64 yd) ∧ (w8.drew).cell? ⟨wr.heap.size, 7, none⟩ = some (.bool yc) ∧ (w8.drew).cell? ⟨ga, oa + k, none⟩ = some (.int .i64 z) := ⟨HX2.out.all8.2.2.2.1, HX2.out.all8.2.2.2.2.1, HX2.out.all8.2.2.2.2.2.1, HX2.out.all8.2.2.2.2.2.2.1, HX2.out.all8.2.2.2.2.2.2.2, (own_cell17 HO2.out hkA).trans (by rw [HAK.out])⟩
      refine wp_region_held_drew (S := fun w' => w'.cell? ⟨wr.heap.size, 3, none⟩ = some (.int .i64 (nd : Int)) ∧ w'.cell? ⟨wr.heap.size, 4, none⟩ = some (.int .i64 yk) ∧ w'.cell? ⟨wr.heap.size, 5, none⟩ = some (.int .i64 yz) ∧ w'.cell? ⟨wr.heap.size, 6, none⟩ = some (.int .i64 yd) ∧ w'.cell? ⟨wr.heap.size, 7, none⟩ = some (.bool yc) ∧ w'.cell? ⟨ga, oa + k, none⟩ = some (.int .i64 z)) (by kernel_rfl) (hq) (fun hHeld => ?_)
      generalize w8.drew = y2 at HX2 HT2 HH2 HO2 hq hHeld ⊢
      refine wpAnyH_take (i := 0) (v := ?_) rfl (by kernel_rfl) (by kernel_rfl) (by kernel_rfl) (fun _ _ _ h => h) (Or.inl ⟨by rfl, ?_⟩) (by assumption) ?_
      rotate_left
      · (intro w hSw; (try dsimp only at hSw); go_simp; (try with_reducible rfl))
      try simp only [pa, pb, pc, Act.put, pe, pf, pg]
      refine wpAnyH_take (i := 1) (v := ?_) rfl (by kernel_rfl) (by kernel_rfl) (by kernel_rfl) (fun _ _ _ h => h) (Or.inl ⟨by rfl, ?_⟩) (by assumption) ?_
      rotate_left
      · (intro w hSw; (try dsimp only at hSw); go_simp; (try with_reducible rfl))
      try simp only [pa, pb, pc, Act.put, pe, pf, pg]
      refine wpAnyH_take (i := 2) (v := ?_) rfl (by kernel_rfl) (by kernel_rfl) (by kernel_rfl) (fun _ _ _ h => h) (Or.inl ⟨by rfl, ?_⟩) (by assumption) ?_
      rotate_left
      · (intro w hSw; (try dsimp only at hSw); go_simp; (try with_reducible rfl))
      try simp only [pa, pb, pc, Act.put, pe, pf, pg]
      refine wpAnyH_take (i := 3) (v := ?_) rfl (by kernel_rfl) (by kernel_rfl) (by kernel_rfl) (fun _ _ _ h => h) (Or.inl ⟨by rfl, ?_⟩) (by assumption) ?_
      rotate_left
      · (intro w hSw; (try dsimp only at hSw); go_simp; (try with_reducible rfl))
      try simp only [pa, pb, pc, Act.put, pe, pf, pg]
      refine wpAnyH_take (i := 4) (v := ?_) rfl (by kernel_rfl) (by kernel_rfl) (by kernel_rfl) (fun _ _ _ h => h) (Or.inl ⟨by rfl, ?_⟩) (by assumption) ?_
      rotate_left
      · (intro w hSw; (try dsimp only at hSw); go_simp; (try with_reducible rfl))
      try simp only [pa, pb, pc, Act.put, pe, pf, pg]
      refine wpAnyH_take (i := 5) (v := ?_) rfl (by kernel_rfl) (by kernel_rfl) (by kernel_rfl) (fun _ _ _ h => h) (Or.inl ⟨by rfl, ?_⟩) (by assumption) ?_
      rotate_left
      · (intro w hSw; (try dsimp only at hSw); go_simp; (try with_reducible rfl))
      try simp only [pa, pb, pc, Act.put, pe, pf, pg]
      refine wpAnyH_take (i := 6) (v := ?_) rfl (by kernel_rfl) (by kernel_rfl) (by kernel_rfl) (fun _ _ _ h => h) (Or.inl ⟨by rfl, ?_⟩) (by assumption) ?_
      rotate_left
      · (intro w hSw; (try dsimp only at hSw); go_simp; (try with_reducible rfl))
      try simp only [pa, pb, pc, Act.put, pe, pf, pg]
      refine wpAnyH_take (i := 7) (v := ?_) rfl (by kernel_rfl) (by kernel_rfl) (by kernel_rfl) (fun _ _ _ h => h) (Or.inl ⟨by rfl, ?_⟩) (by assumption) ?_
      rotate_left
      · (intro w hSw; (try dsimp only at hSw); go_simp; (try with_reducible rfl))
      try simp only [pa, pb, pc, Act.put, pe, pf, pg]
      refine wpAnyH_take (i := 8) (v := ?_) rfl (by kernel_rfl) (by kernel_rfl) (by kernel_rfl) (fun _ _ _ h => h) (Or.inl ⟨by rfl, ?_⟩) (by assumption) ?_
      rotate_left
      · (intro w hSw; (try dsimp only at hSw); go_simp; (try with_reducible rfl))
      try simp only [pa, pb, pc, Act.put, pe, pf, pg]
      refine wpAnyH_take (i := 9) (v := ?_) rfl (by kernel_rfl) (by kernel_rfl) (by kernel_rfl) (fun _ _ _ h => h) (Or.inl ⟨by rfl, ?_⟩) (by assumption) ?_
      rotate_left
      · (intro w hSw; (try dsimp only at hSw); go_simp; (try with_reducible rfl))
      try simp only [pa, pb, pc, Act.put, pe, pf, pg]
      refine wpAnyH_take (i := 10) (v := ?_) rfl (by kernel_rfl) (by kernel_rfl) (by kernel_rfl) (fun _ _ _ h => h) (Or.inl ⟨by rfl, ?_⟩) (by assumption) ?_
      rotate_left
      · (intro w hSw; (try dsimp only at hSw); go_simp; (try with_reducible rfl))
      try simp only [pa, pb, pc, Act.put, pe, pf, pg]
      refine wpAnyH_take (i := 12) (v := ?_) rfl (by kernel_rfl) (by kernel_rfl) (by kernel_rfl) (fun _ _ _ h => h) (Or.inl ⟨by rfl, ?_⟩) (by assumption) ?_
      rotate_left
      · (intro w hSw; (try dsimp only at hSw); go_simp; (try with_reducible rfl))
      try simp only [pa, pb, pc, Act.put, pe, pf, pg]
      refine wpAnyH_take (i := 13) (v := ?_) rfl (by kernel_rfl) (by kernel_rfl) (by kernel_rfl) (fun _ _ _ h => h) (Or.inl ⟨by rfl, ?_⟩) (by assumption) ?_
      rotate_left
      · (intro w hSw; (try dsimp only at hSw); go_simp; (try with_reducible rfl))
      try simp only [pa, pb, pc, Act.put, pe, pf, pg]
      refine wpAnyH_take (i := 14) (v := ?_) rfl (by kernel_rfl) (by kernel_rfl) (by kernel_rfl) (fun _ _ _ h => h) (Or.inl ⟨by rfl, ?_⟩) (by assumption) ?_
      rotate_left
      · (intro w hSw; (try dsimp only at hSw); go_simp; (try with_reducible rfl))
      try simp only [pa, pb, pc, Act.put, pe, pf, pg]
      refine wpAnyH_take (i := 15) (v := ?_) rfl (by kernel_rfl) (by kernel_rfl) (by kernel_rfl) (fun _ _ _ h => h) (Or.inl ⟨by rfl, ?_⟩) (by assumption) ?_
      rotate_left
      · (intro w hSw; (try dsimp only at hSw); go_simp; (try with_reducible rfl))
      try simp only [pa, pb, pc, Act.put, pe, pf, pg]
      refine wpAnyH_take (i := 16) (v := ?_) rfl (by kernel_rfl) (by kernel_rfl) (by kernel_rfl) (fun _ _ _ h => h) (Or.inl ⟨by rfl, ?_⟩) (by assumption) ?_
      rotate_left
      · (intro w hSw; (try dsimp only at hSw); go_simp; (try with_reducible rfl))
      try simp only [pa, pb, pc, Act.put, pe, pf, pg]
      refine wpAnyH_take (i := 17) (v := ?_) rfl (by kernel_rfl) (by kernel_rfl) (by kernel_rfl) (fun _ _ _ h => h) (Or.inl ⟨by rfl, ?_⟩) (by assumption) ?_
      rotate_left
      · (intro w hSw; (try dsimp only at hSw); go_simp; (try with_reducible rfl))
      try simp only [pa, pb, pc, Act.put, pe, pf, pg]
      refine wpAnyH_take (i := 18) (v := ?_) rfl (by kernel_rfl) (by kernel_rfl) (by kernel_rfl) (fun _ _ _ h => h) (Or.inl ⟨by rfl, ?_⟩) (by assumption) ?_
      rotate_left
      · (intro w hSw; (try dsimp only at hSw); go_simp; (try with_reducible rfl))
      try simp only [pa, pb, pc, Act.put, pe, pf, pg]
      refine wpAnyH_take (i := 21) (v := ?_) rfl (by kernel_rfl) (by kernel_rfl) (by kernel_rfl) (fun _ _ _ h => h) (Or.inl ⟨by rfl, ?_⟩) (by assumption) ?_
      rotate_left
      · (intro w hSw; (try dsimp only at hSw); go_simp; (try with_reducible rfl))
      try simp only [pa, pb, pc, Act.put, pe, pf, pg]
      refine wpAnyH_take (i := 22) (v := ?_) rfl (by kernel_rfl) (by kernel_rfl) (by kernel_rfl) (fun _ _ _ h => h) (Or.inl ⟨by rfl, ?_⟩) (by assumption) ?_
      rotate_left
      · (intro w hSw; (try dsimp only at hSw); go_simp; (try with_reducible rfl))
      try simp only [pa, pb, pc, Act.put, pe, pf, pg]
      refine wpAnyH_ready (rs := [11, 19]) (by kernel_rfl) (by simp) (AllReadyH.cons rfl (fun K hK => ?_) (AllReadyH.cons rfl (fun K hK => ?_) (AllReadyH.nil)))
      · have c7 := HT2.out.at hn32
        rw [HVA.out] at c7
        go_simp
        refine hK.out _ _ ?_ (fun hHeld => ?_)
        · exact hq
        clear hK K c7
        try simp only [pa, pb, pc, Act.put, pe, pf, pg]
        refine wpAnyH_ready (rs := [19]) (by kernel_rfl) (by simp) (AllReadyH.cons rfl (fun K hK => ?_) AllReadyH.nil)
        have bB := (Below.refl _ _).alloc (Nat.le_refl (y2).heap.size) (.cells #[.int .i64 z, .int .i64 (nd : Int), .int .i64 yk, .int .i64 yz, .int .i64 yd, .bool yc] 141)
        have HX3 := Lib.hid (HX2.out.below bB HX2.out.lt)
        have HT3 := Lib.hid (HT2.out.below bB HT2.out.lt)
        have HH3 := Lib.hid (HH2.out.still bB)
        have HO3 := Lib.hid (HO2.out.below bB)
        have HCL := Lib.hid ((SdBk.new (T := 141) (x := ⟨z, ⟨(nd : Int), yk, yz, yd, yc⟩⟩) y2).in_)
        have hqn : (y2.alloc (.cells #[.int .i64 z, .int .i64 (nd : Int), .int .i64 yk, .int .i64 yz, .int .i64 yd, .bool yc] 141)).cell? ⟨wr.heap.size, 3, none⟩ = some (.int .i64 (nd : Int)) ∧ (y2.alloc (.cells #[.int .i64 z, .int .i64 (nd : Int), .int .i64 yk, .int .i64 yz, .int .i64 yd, .bool yc] 141)).cell? ⟨wr.heap.size, 4, none⟩ = some (.int .i64 yk) ∧ (y2.alloc (.cells #[.int .i64 z, .int .i64 (nd : Int), .int .i64 yk, .int .i64 yz, .int .i64 yd, .bool yc] 141)).cell? ⟨wr.heap.size, 5, none⟩ = some (.int .i64 yz) ∧ (y2.alloc (.cells #[.int .i64 z, .int .i64 (nd : Int), .int .i64 yk, .int .i64 yz, .int .i64 yd, .bool yc] 141)).cell? ⟨wr.heap.size, 6, none⟩ = some (.int .i64 yd) ∧ (y2.alloc (.cells #[.int .i64 z, .int .i64 (nd : Int), .int .i64 yk, .int .i64 yz, .int .i64 yd, .bool yc] 141)).cell? ⟨wr.heap.size, 7, none⟩ = some (.bool yc) ∧ (y2.alloc (.cells #[.int .i64 z, .int .i64 (nd : Int), .int .i64 yk, .int .i64 yz, .int .i64 yd, .bool yc] 141)).cell? ⟨ga, oa + k, none⟩ = some (.int .i64 z) := ⟨HX3.out.all8.2.2.2.1, HX3.out.all8.2.2.2.2.1, HX3.out.all8.2.2.2.2.2.1, HX3.out.all8.2.2.2.2.2.2.1, HX3.out.all8.2.2.2.2.2.2.2, (own_cell17 HO3.out hkA).trans (by rw [HAK.out])⟩
        go_simp
        refine hK.out _ _ ?_ (fun hHeld => ?_)
        · exact hqn
        clear hK K hq HX2 HT2 HH2 HO2 bB
        generalize y2.alloc (.cells #[.int .i64 z, .int .i64 (nd : Int), .int .i64 yk, .int .i64 yz, .int .i64 yd, .bool yc] 141) = y3 at HX3 HT3 HH3 HO3 HCL hqn hHeld ⊢
        have hq := hqn
        clear hqn
        try simp only [pa, pb, pc, Act.put, pe, pf, pg]
        refine wpAnyH_ready (rs := [20]) (by kernel_rfl) (by simp) (AllReadyH.cons rfl (fun K hK => ?_) AllReadyH.nil)
        refine lies_sd _ (.tmp 55) (.tmp 63) rfl w5.heap.size Tryz.underlying136 infoSd _ (sentTo E9 (nd : Int) k) rfl (HVA.out ▸ HH3.out.sd hn32) _ 0 ⟨z, ⟨(nd : Int), yk, yz, yd, yc⟩⟩ _ rfl HCL.out (by have := HLN.out; omega) HH3.out.below.size ?_
        intro v5 y4 o5 g5 hb5
        rw [← HVA.out] at g5 hb5
        obtain ⟨ao5, cap5, e5, -, -⟩ := o5.get
        subst e5
        have HX4 := Lib.hid (HX3.out.grown g5 (HH3.out.ne_sd hn32 HX3.out (by decide)))
        have HT4 := Lib.hid (HT3.out.grown g5 (HH3.out.ne_sd hn32 HT3.out (by decide)))
        have HO4 := Lib.hid (Own.only HO3.out g5 (rows_apart17 HO3.out (HH3.out.sd hn32) (by decide)))
        have HH4 := Lib.hid (HH3.out.pushSd hn32 o5 g5 hb5)
        clear g5 hb5 o5 HCL HX3 HT3 HO3 HH3 hq
        have hq : (y4).cell? ⟨wr.heap.size, 3, none⟩ = some (.int .i64 (nd : Int)) ∧ (y4).cell? ⟨wr.heap.size, 4, none⟩ = some (.int .i64 yk) ∧ (y4).cell? ⟨wr.heap.size, 5, none⟩ = some (.int .i64 yz) ∧ (y4).cell? ⟨wr.heap.size, 6, none⟩ = some (.int .i64 yd) ∧ (y4).cell? ⟨wr.heap.size, 7, none⟩ = some (.bool yc) ∧ (y4).cell? ⟨ga, oa + k, none⟩ = some (.int .i64 z) := ⟨HX4.out.all8.2.2.2.1, HX4.out.all8.2.2.2.2.1, HX4.out.all8.2.2.2.2.2.1, HX4.out.all8.2.2.2.2.2.2.1, HX4.out.all8.2.2.2.2.2.2.2, (own_cell17 HO4.out hkA).trans (by rw [HAK.out])⟩
        refine hK.out _ _ ?_ (fun hHeld => ?_)
        · exact hq
        clear hK K
        try simp only [pa, pb, pc, Act.put, pe, pf, pg]
        refine wpAnyH_take (i := 23) (v := ?_) rfl (by kernel_rfl) (by kernel_rfl) (by kernel_rfl) (fun _ _ _ h => h) (Or.inl ⟨by rfl, ?_⟩) (by assumption) ?_
        rotate_left
        · (intro w hSw; (try dsimp only at hSw); go_simp; (try with_reducible rfl))
        try simp only [pa, pb, pc, Act.put, pe, pf, pg]
        have c7 := HT4.out.at hn32
        have f7 := HT4.out.f (1 + nd)
        generalize hln5 : (sentTo E9 (nd : Int) k ++ [(⟨z, ⟨(nd : Int), yk, yz, yd, yc⟩⟩ : Sd)]).length = ln5 at HH4 ⊢
        have HT9 := Lib.hid (HT4.out.put hn32 (.slice ao5 ln5 cap5))
        have HH9 := Lib.hid (HH4.out.setSd HT4.out (by decide) HBE.out (1 + nd) (.slice ao5 ln5 cap5))
        have HO9 := Lib.hid (Own.only HO4.out (grown_set y4 b (1 + nd) (.slice ao5 ln5 cap5)) (.inr (fun e => ownsRow_ne HO4.out HT4.out (by decide) e.symm)))
        have HX9 := Lib.hid (HX4.out.grown (grown_set y4 b (1 + nd) (.slice ao5 ln5 cap5)) (ne_blk17 HX4.out HT4.out (by decide)))
        have hqn : (y4.setCell ⟨b, 1 + nd, none⟩ (.slice ao5 ln5 cap5)).cell? ⟨wr.heap.size, 3, none⟩ = some (.int .i64 (nd : Int)) ∧ (y4.setCell ⟨b, 1 + nd, none⟩ (.slice ao5 ln5 cap5)).cell? ⟨wr.heap.size, 4, none⟩ = some (.int .i64 yk) ∧ (y4.setCell ⟨b, 1 + nd, none⟩ (.slice ao5 ln5 cap5)).cell? ⟨wr.heap.size, 5, none⟩ = some (.int .i64 yz) ∧ (y4.setCell ⟨b, 1 + nd, none⟩ (.slice ao5 ln5 cap5)).cell? ⟨wr.heap.size, 6, none⟩ = some (.int .i64 yd) ∧ (y4.setCell ⟨b, 1 + nd, none⟩ (.slice ao5 ln5 cap5)).cell? ⟨wr.heap.size, 7, none⟩ = some (.bool yc) ∧ (y4.setCell ⟨b, 1 + nd, none⟩ (.slice ao5 ln5 cap5)).cell? ⟨ga, oa + k, none⟩ = some (.int .i64 z) := ⟨HX9.out.all8.2.2.2.1, HX9.out.all8.2.2.2.2.1, HX9.out.all8.2.2.2.2.2.1, HX9.out.all8.2.2.2.2.2.2.1, HX9.out.all8.2.2.2.2.2.2.2, (own_cell17 HO9.out hkA).trans (by rw [HAK.out])⟩
        refine wpAnyH_ready (rs := [24]) (by kernel_rfl) (by simp) (AllReadyH.cons rfl (fun K hK => ?_) AllReadyH.nil)
        go_simp
        refine hK.out _ _ ?_ (fun hHeld => ?_)
        · exact hqn
        clear hK K
        try simp only [pa, pb, pc, Act.put, pe, pf, pg]
        refine wpAnyH_done (by kernel_rfl) ?_ _
        clear hq hqn c7 f7 HT4 HH4 HO4 HX4 HX9
        go_wp2_with fail
        go_roundw
        case rel => exact ⟨k + 1, _, by omega, by go_num, HT9, Lib.hid (HH9.out.congrSd (step_sd17 HNX.out)), HO9⟩
        case measure => simp [intOf]; omega
      · have bB := (Below.refl _ _).alloc (Nat.le_refl (y2).heap.size) (.cells #[.int .i64 z, .int .i64 (nd : Int), .int .i64 yk, .int .i64 yz, .int .i64 yd, .bool yc] 141)
        have HX3 := Lib.hid (HX2.out.below bB HX2.out.lt)
        have HT3 := Lib.hid (HT2.out.below bB HT2.out.lt)
        have HH3 := Lib.hid (HH2.out.still bB)
        have HO3 := Lib.hid (HO2.out.below bB)
        have HCL := Lib.hid ((SdBk.new (T := 141) (x := ⟨z, ⟨(nd : Int), yk, yz, yd, yc⟩⟩) y2).in_)
        have hqn : (y2.alloc (.cells #[.int .i64 z, .int .i64 (nd : Int), .int .i64 yk, .int .i64 yz, .int .i64 yd, .bool yc] 141)).cell? ⟨wr.heap.size, 3, none⟩ = some (.int .i64 (nd : Int)) ∧ (y2.alloc (.cells #[.int .i64 z, .int .i64 (nd : Int), .int .i64 yk, .int .i64 yz, .int .i64 yd, .bool yc] 141)).cell? ⟨wr.heap.size, 4, none⟩ = some (.int .i64 yk) ∧ (y2.alloc (.cells #[.int .i64 z, .int .i64 (nd : Int), .int .i64 yk, .int .i64 yz, .int .i64 yd, .bool yc] 141)).cell? ⟨wr.heap.size, 5, none⟩ = some (.int .i64 yz) ∧ (y2.alloc (.cells #[.int .i64 z, .int .i64 (nd : Int), .int .i64 yk, .int .i64 yz, .int .i64 yd, .bool yc] 141)).cell? ⟨wr.heap.size, 6, none⟩ = some (.int .i64 yd) ∧ (y2.alloc (.cells #[.int .i64 z, .int .i64 (nd : Int), .int .i64 yk, .int .i64 yz, .int .i64 yd, .bool yc] 141)).cell? ⟨wr.heap.size, 7, none⟩ = some (.bool yc) ∧ (y2.alloc (.cells #[.int .i64 z, .int .i64 (nd : Int), .int .i64 yk, .int .i64 yz, .int .i64 yd, .bool yc] 141)).cell? ⟨ga, oa + k, none⟩ = some (.int .i64 z) := ⟨HX3.out.all8.2.2.2.1, HX3.out.all8.2.2.2.2.1, HX3.out.all8.2.2.2.2.2.1, HX3.out.all8.2.2.2.2.2.2.1, HX3.out.all8.2.2.2.2.2.2.2, (own_cell17 HO3.out hkA).trans (by rw [HAK.out])⟩
        go_simp
        refine hK.out _ _ ?_ (fun hHeld => ?_)
        · exact hqn
        clear hK K hq HX2 HT2 HH2 HO2 bB
        generalize y2.alloc (.cells #[.int .i64 z, .int .i64 (nd : Int), .int .i64 yk, .int .i64 yz, .int .i64 yd, .bool yc] 141) = y3 at HX3 HT3 HH3 HO3 HCL hqn hHeld ⊢
        have hq := hqn
        clear hqn
        try simp only [pa, pb, pc, Act.put, pe, pf, pg]
        refine wpAnyH_ready (rs := [11]) (by kernel_rfl) (by simp) (AllReadyH.cons rfl (fun K hK => ?_) AllReadyH.nil)
        have c7 := HT3.out.at hn32
        rw [HVA.out] at c7
        go_simp
        refine hK.out _ _ ?_ (fun hHeld => ?_)
        · exact hq
        clear hK K c7
        try simp only [pa, pb, pc, Act.put, pe, pf, pg]
        refine wpAnyH_ready (rs := [20]) (by kernel_rfl) (by simp) (AllReadyH.cons rfl (fun K hK => ?_) AllReadyH.nil)
        refine lies_sd _ (.tmp 55) (.tmp 63) rfl w5.heap.size Tryz.underlying136 infoSd _ (sentTo E9 (nd : Int) k) rfl (HVA.out ▸ HH3.out.sd hn32) _ 0 ⟨z, ⟨(nd : Int), yk, yz, yd, yc⟩⟩ _ rfl HCL.out (by have := HLN.out; omega) HH3.out.below.size ?_
        intro v5 y4 o5 g5 hb5
        rw [← HVA.out] at g5 hb5
        obtain ⟨ao5, cap5, e5, -, -⟩ := o5.get
        subst e5
        have HX4 := Lib.hid (HX3.out.grown g5 (HH3.out.ne_sd hn32 HX3.out (by decide)))
        have HT4 := Lib.hid (HT3.out.grown g5 (HH3.out.ne_sd hn32 HT3.out (by decide)))
        have HO4 := Lib.hid (Own.only HO3.out g5 (rows_apart17 HO3.out (HH3.out.sd hn32) (by decide)))
        have HH4 := Lib.hid (HH3.out.pushSd hn32 o5 g5 hb5)
        clear g5 hb5 o5 HCL HX3 HT3 HO3 HH3 hq
        have hq : (y4).cell? ⟨wr.heap.size, 3, none⟩ = some (.int .i64 (nd : Int)) ∧ (y4).cell? ⟨wr.heap.size, 4, none⟩ = some (.int .i64 yk) ∧ (y4).cell? ⟨wr.heap.size, 5, none⟩ = some (.int .i64 yz) ∧ (y4).cell? ⟨wr.heap.size, 6, none⟩ = some (.int .i64 yd) ∧ (y4).cell? ⟨wr.heap.size, 7, none⟩ = some (.bool yc) ∧ (y4).cell? ⟨ga, oa + k, none⟩ = some (.int .i64 z) := ⟨HX4.out.all8.2.2.2.1, HX4.out.all8.2.2.2.2.1, HX4.out.all8.2.2.2.2.2.1, HX4.out.all8.2.2.2.2.2.2.1, HX4.out.all8.2.2.2.2.2.2.2, (own_cell17 HO4.out hkA).trans (by rw [HAK.out])⟩
        refine hK.out _ _ ?_ (fun hHeld => ?_)
        · exact hq
        clear hK K
        try simp only [pa, pb, pc, Act.put, pe, pf, pg]
        refine wpAnyH_take (i := 23) (v := ?_) rfl (by kernel_rfl) (by kernel_rfl) (by kernel_rfl) (fun _ _ _ h => h) (Or.inl ⟨by rfl, ?_⟩) (by assumption) ?_
        rotate_left
        · (intro w hSw; (try dsimp only at hSw); go_simp; (try with_reducible rfl))
        try simp only [pa, pb, pc, Act.put, pe, pf, pg]
        have c7 := HT4.out.at hn32
        have f7 := HT4.out.f (1 + nd)
        generalize hln5 : (sentTo E9 (nd : Int) k ++ [(⟨z, ⟨(nd : Int), yk, yz, yd, yc⟩⟩ : Sd)]).length = ln5 at HH4 ⊢
        have HT9 := Lib.hid (HT4.out.put hn32 (.slice ao5 ln5 cap5))
        have HH9 := Lib.hid (HH4.out.setSd HT4.out (by decide) HBE.out (1 + nd) (.slice ao5 ln5 cap5))
        have HO9 := Lib.hid (Own.only HO4.out (grown_set y4 b (1 + nd) (.slice ao5 ln5 cap5)) (.inr (fun e => ownsRow_ne HO4.out HT4.out (by decide) e.symm)))
        have HX9 := Lib.hid (HX4.out.grown (grown_set y4 b (1 + nd) (.slice ao5 ln5 cap5)) (ne_blk17 HX4.out HT4.out (by decide)))
        have hqn : (y4.setCell ⟨b, 1 + nd, none⟩ (.slice ao5 ln5 cap5)).cell? ⟨wr.heap.size, 3, none⟩ = some (.int .i64 (nd : Int)) ∧ (y4.setCell ⟨b, 1 + nd, none⟩ (.slice ao5 ln5 cap5)).cell? ⟨wr.heap.size, 4, none⟩ = some (.int .i64 yk) ∧ (y4.setCell ⟨b, 1 + nd, none⟩ (.slice ao5 ln5 cap5)).cell? ⟨wr.heap.size, 5, none⟩ = some (.int .i64 yz) ∧ (y4.setCell ⟨b, 1 + nd, none⟩ (.slice ao5 ln5 cap5)).cell? ⟨wr.heap.size, 6, none⟩ = some (.int .i64 yd) ∧ (y4.setCell ⟨b, 1 + nd, none⟩ (.slice ao5 ln5 cap5)).cell? ⟨wr.heap.size, 7, none⟩ = some (.bool yc) ∧ (y4.setCell ⟨b, 1 + nd, none⟩ (.slice ao5 ln5 cap5)).cell? ⟨ga, oa + k, none⟩ = some (.int .i64 z) := ⟨HX9.out.all8.2.2.2.1, HX9.out.all8.2.2.2.2.1, HX9.out.all8.2.2.2.2.2.1, HX9.out.all8.2.2.2.2.2.2.1, HX9.out.all8.2.2.2.2.2.2.2, (own_cell17 HO9.out hkA).trans (by rw [HAK.out])⟩
        refine wpAnyH_ready (rs := [24]) (by kernel_rfl) (by simp) (AllReadyH.cons rfl (fun K hK => ?_) AllReadyH.nil)
        go_simp
        refine hK.out _ _ ?_ (fun hHeld => ?_)
        · exact hqn
        clear hK K
        try simp only [pa, pb, pc, Act.put, pe, pf, pg]
        refine wpAnyH_done (by kernel_rfl) ?_ _
        clear hq hqn c7 f7 HT4 HH4 HO4 HX4 HX9
        go_wp2_with fail
        go_roundw
        case rel => exact ⟨k + 1, _, by omega, by go_num, HT9, Lib.hid (HH9.out.congrSd (step_sd17 HNX.out)), HO9⟩
        case measure => simp [intOf]; omega
    · have hkn : k = E9.length := by omega
      subst hkn
      go_wp2_with fail
      go_ret2
      refine ⟨below_two HB5.out HH.out.below, .inr ⟨HA.out, b, rfl, HTM.out _ _ ⟨⟨vs, HT.out, fun n hn => ?_⟩⟩⟩⟩
      obtain ⟨ao, cap, e, r, q1, q2, -⟩ := (HH.out.sd hn).form
      exact ⟨ao, cap, e, r, q1, by unfold maxLen at q2; omega⟩
end

section
open Go.RowKit
theorem sd_cases (x : Sd) : ∃ a n k s d c, x = ⟨a, ⟨n, k, s, d, c⟩⟩ := ⟨_, _, _, _, _, _, rfl⟩
structure FfSt (w W : World) (b g : Nat) (C : Int) (ts : Nat → List Sd) (T : Nat) : Prop where
  tm : RdTm W b C ts
  be : Below w.heap.size w W
  bx : SdBk T W g Sd.zero
  hg : w.heap.size ≤ g
theorem FfSt.call {w W W' : World} {b g : Nat} {C : Int} {ts : Nat → List Sd} {T : Nat} (h : FfSt w W b g C ts T) (hb : Below W.heap.size W W') : FfSt w W' b g C ts T :=
  ⟨h.tm.below hb, below_two h.be hb, h.bx.below hb h.bx.lt, h.hg⟩
set_option linter.unusedSimpArgs false in
set_option maxRecDepth 100000 in
set_option maxHeartbeats 4000000 in
theorem firstFrom_any (b n : Nat) (C t : Int) (ts : Nat → List Sd) (w : World) (h : RdTm w b C ts) (hn : n < 32) (ho : SdOk C (ts n)) (h0 : 0 ≤ t) (h1 : t ≤ 1000000) :
    Calls Tryz.prog 143 #[.pointer (some ⟨b, 0, none⟩), .int .i64 (n : Int), .int .i64 t] w fun e w' => e = .returned (sdVal (firstFrom C (ts n) t)) ∧ Below w.heap.size w w' := by
  have hC0 := ho.pos
  have hC1 := ho.c1
  have hq0 := Int.emod_nonneg t (show C ≠ 0 by omega)
  have hq1 := Int.emod_lt_of_pos t (show 0 < C by omega)
  have hq2 : t % C ≤ t := by
    obtain ⟨a, rfl⟩ := Int.eq_ofNat_of_zero_le h0
    obtain ⟨c, rfl⟩ := Int.eq_ofNat_of_zero_le (show 0 ≤ C by omega)
    exact Int.ofNat_le.2 (Nat.mod_le a c)
  have hni : (n : Int) < 32 := by omega
  have htm : t.tmod C = t % C := by rw [Int.tmod_eq_emod_of_nonneg h0]
  have HLO := Lib.hid (fun i (hi : i < (ts n).length) => ho.lo i hi)
  have hne := ho.ne
  have hle := ho.le
  have HFY := Lib.hid (fun k (hk : k < (ts n).length) (hno : ∀ i, i < k → isFrom t (cyBase C t) (sdOf (ts n) i) = false) (hy : isFrom t (cyBase C t) (sdOf (ts n) k) = true) => (show firstFrom C (ts n) t = ⟨(sdOf (ts n) k).st + cyBase C t, (sdOf (ts n) k).d⟩ from by unfold firstFrom; rw [find_sd hk hno hy]))
  have HFN := Lib.hid (fun (hno : ∀ i, i < (ts n).length → isFrom t (cyBase C t) (sdOf (ts n) i) = false) => (show firstFrom C (ts n) t = ⟨(sdOf (ts n) 0).st + (cyBase C t + C), (sdOf (ts n) 0).d⟩ from by unfold firstFrom; rw [find_sd_none hno]))
  have hb0 : cyBase C t = t - t % C := rfl
  have hb1 : 0 ≤ cyBase C t ∧ cyBase C t ≤ 1000000 := by omega
  have hwr : IntKind.i64.wrap (t - t % C) = cyBase C t := by rw [IntKind.wrap_i64]; omega
  have hCne : ¬ C = 0 := by omega
  generalize hR : firstFrom C (ts n) t = R at HFY HFN ⊢
  generalize cyBase C t = c at HFY HFN hb0 hb1 hwr
  have hb1a := hb1.1
  have hb1b := hb1.2
  have HF0 := Lib.hid (show FfSt w (w.alloc (.cells #[.int .i64 0, .int .i64 0, .int .i64 0, .int .i64 0, .int .i64 0, .bool false] 141)) b w.heap.size C ts 141 from ⟨h.below ((Below.refl _ _).alloc (Nat.le_refl _) _), (Below.refl _ _).alloc (Nat.le_refl _) _, SdBk.new (x := Sd.zero) w, Nat.le_refl _⟩)
  clear hR h ho hb0 hb1
  go_enter Tryz.func143, Tryz.ntmps143
  go_upto_region 1 with fail
  generalize w.alloc (.cells #[.int .i64 0, .int .i64 0, .int .i64 0, .int .i64 0, .int .i64 0, .bool false] 141) = w1 at HF0 ⊢
  obtain ⟨g, hg⟩ : ∃ g, g = w.heap.size := ⟨_, rfl⟩
  rw [← hg] at HF0 ⊢
  clear hg
  have hc0 := HF0.out.tm.c0
  obtain ⟨vo, vc, hv, hrd, -⟩ := HF0.out.tm.at hn
  have hS0 : 0 < (ts n).length := hne
  go_upto_region 2 with fail
  clear hq0 hq1 hq2 htm hwr hc0
  go_upto_region 3 with fail
  have HRD := Lib.hid hrd
  clear hv hrd
  go_loopw [26] (fun i wr => ∃ k : Nat, k ≤ (ts n).length ∧ i = .int .i64 k ∧ Hid (FfSt w wr b g C ts 141) ∧ Hid (∀ i, i < k → isFrom t c (sdOf (ts n) i) = false) ∧ Hid (RdSd wr vo (ts n).length (ts n))) (fun i _ => (ts n).length - (intOf i).toNat)
  case atStart => exact ⟨0, Nat.zero_le _, rfl, HF0, Lib.hid (fun i hi => absurd hi (by omega)), HRD⟩
  case round =>
    clear HF0 HRD
    obtain ⟨k, hk, rfl, HF, HNO, HR⟩ := hrel
    by_cases hlt : k < (ts n).length
    · obtain ⟨bb, off, e0, hg, hx⟩ := HR.out.at hlt
      subst e0
      have hl := HLO.out k hlt
      have HY := Lib.hid (HFY.out k hlt HNO.out)
      have HN2 := Lib.hid (show isFrom t c (sdOf (ts n) k) = false → ∀ i, i < k + 1 → isFrom t c (sdOf (ts n) i) = false from fun e i hi => by
        by_cases h : i = k
        · rw [h]; exact e
        · exact HNO.out i (by omega))
      generalize sdOf (ts n) k = y at hx hl HY HN2
      obtain ⟨a, dn, dk, ds, dd, dc, rfl⟩ := sd_cases y
      dsimp only at hl
      obtain ⟨x0, x1, x2, x3, x4, x5⟩ := hx.all
      (try dsimp only at x0 x1 x2 x3 x4 x5)
      have hw2 : IntKind.i64.wrap (a + c) = a + c := by rw [IntKind.wrap_i64]; omega
      have bal := (Below.refl wr.heap.size wr).alloc (Nat.le_refl _) (.cells #[.int .i64 a, .int .i64 dn, .int .i64 dk, .int .i64 ds, .int .i64 dd, .bool dc] 141)
      have HX1 := Lib.hid (SdBk.new (T := 141) (x := ⟨a, ⟨dn, dk, ds, dd, dc⟩⟩) wr)
      have HB1 := Lib.hid bal
      clear bal hx
      go_upto_region 5 with fail
      clear x0 x1 x2 x3 x4 x5
      generalize wr.alloc (.cells #[.int .i64 a, .int .i64 dn, .int .i64 dk, .int .i64 ds, .int .i64 dd, .bool dc] 141) = w8 at HX1 HB1 ⊢
      have HB2 := Lib.hid (HB1.out.setCell (p := ⟨wr.heap.size, 0, none⟩) (Nat.le_refl wr.heap.size) (.int .i64 (a + c)))
      have HX2 := Lib.hid (HX1.out.set0 (a + c))
      obtain ⟨x0, -⟩ := HX1.out.all
      have f0 := HX1.out.f 0
      (try dsimp only at x0)
      clear HX1 HB1
      go_upto_region 6 with fail
      clear x0 f0
      generalize w8.setCell ⟨wr.heap.size, 0, none⟩ (.int .i64 (a + c)) = w9 at HX2 HB2 ⊢
      have HF2 := Lib.hid (HF.out.call HB2.out)
      have HR2 := Lib.hid (HR.out.below HB2.out)
      clear HB2 HF HR
      obtain ⟨x0, x1, x2, x3, x4, x5⟩ := HX2.out.all
      (try dsimp only at x0 x1 x2 x3 x4 x5)
      by_cases hge : t ≤ a + c
      · have hyy := HY.out (isFrom_iff.2 hge)
        obtain ⟨g0, g1, g2, g3, g4, g5⟩ := HF2.out.bx.all
        simp only [Sd.zero, Ds.zero] at g0 g1 g2 g3 g4 g5
        have f0 := HF2.out.bx.f 0; have f1 := HF2.out.bx.f 1; have f2 := HF2.out.bx.f 2; have f3 := HF2.out.bx.f 3; have f4 := HF2.out.bx.f 4; have f5 := HF2.out.bx.f 5
        have HP := Lib.hid (HF2.out.bx.put ⟨a + c, ⟨dn, dk, ds, dd, dc⟩⟩)
        have HQ := Lib.hid (HF2.out.be.trans (below_setsd (b := g) (w := w9) HF2.out.hg ⟨a + c, ⟨dn, dk, ds, dd, dc⟩⟩))
        have HYY := Lib.hid hyy
        clear HY HN2 hyy HFY HFN
        go_wp2_with fail
        change bodyPost _ _ _ _ _ (setsd w9 g ⟨a + c, ⟨dn, dk, ds, dd, dc⟩⟩)
        clear x0 x1 x2 x3 x4 x5 g0 g1 g2 g3 g4 g5 f0 f1 f2 f3 f4 f5
        generalize setsd w9 g ⟨a + c, ⟨dn, dk, ds, dd, dc⟩⟩ = w5 at HP HQ ⊢
        obtain ⟨x0, x1, x2, x3, x4, x5⟩ := HP.out.all
        (try dsimp only at x0 x1 x2 x3 x4 x5)
        exact bodyPost_ret (v := sdVal ⟨a + c, ⟨dn, dk, ds, dd, dc⟩⟩) (by simp [sdVal, results, Tryz.results143, go_sem, x0, x1, x2, x3, x4, x5]) rfl ⟨by rw [HYY.out], HQ.out⟩
      · have HN3 := Lib.hid (HN2.out (isFrom_no.2 (by show a + c < t; omega)))
        clear HY HN2
        go_wp2_with fail
        clear x0 x1 x2 x3 x4 x5
        go_roundw
        case rel => exact ⟨k + 1, by omega, by go_num, HF2, HN3, HR2⟩
        case measure => simp [intOf]; omega
    · have hkn : k = (ts n).length := by omega
      subst hkn
      have HFF := Lib.hid (HFN.out HNO.out)
      clear HFN HFY HNO HR
      obtain ⟨vo2, vc2, hv, hrd, -⟩ := HF.out.tm.at hn
      obtain ⟨bb, off, e0, hg, hx⟩ := hrd.at hne
      subst e0
      have hl := HLO.out 0 hne
      rw [Nat.zero_mul, Nat.add_zero] at hx
      clear HLO hrd
      generalize sdOf (ts n) 0 = y at hx hl HFF
      obtain ⟨a, dn, dk, ds, dd, dc, rfl⟩ := sd_cases y
      dsimp only at hl HFF
      obtain ⟨x0, x1, x2, x3, x4, x5⟩ := hx.all
      (try dsimp only at x0 x1 x2 x3 x4 x5)
      have bal := (Below.refl wr.heap.size wr).alloc (Nat.le_refl _) (.cells #[.int .i64 a, .int .i64 dn, .int .i64 dk, .int .i64 ds, .int .i64 dd, .bool dc] 141)
      have HX1 := Lib.hid (SdBk.new (T := 141) (x := ⟨a, ⟨dn, dk, ds, dd, dc⟩⟩) wr)
      have HB1 := Lib.hid bal
      clear bal hx
      go_upto_region 10 with fail
      clear x0 x1 x2 x3 x4 x5 hv
      generalize wr.alloc (.cells #[.int .i64 a, .int .i64 dn, .int .i64 dk, .int .i64 ds, .int .i64 dd, .bool dc] 141) = w8 at HX1 HB1 ⊢
      have HF1 := Lib.hid (HF.out.call HB1.out)
      have hw3 : IntKind.i64.wrap (c + C) = c + C := by rw [IntKind.wrap_i64]; omega
      have hw4 : IntKind.i64.wrap (a + (c + C)) = a + (c + C) := by rw [IntKind.wrap_i64]; omega
      have HB2 := Lib.hid (Below.drew (HB1.out.setCell (p := ⟨wr.heap.size, 0, none⟩) (Nat.le_refl wr.heap.size) (.int .i64 (a + (c + C)))))
      have HX2 := Lib.hid (show SdBk 141 (w8.setCell ⟨wr.heap.size, 0, none⟩ (.int .i64 (a + (c + C)))).drew wr.heap.size ⟨a + (c + C), ⟨dn, dk, ds, dd, dc⟩⟩ from HX1.out.set0 (a + (c + C)))
      have hc0 := HF1.out.tm.c0
      obtain ⟨x0, -⟩ := HX1.out.all
      (try dsimp only at x0)
      have f0 := HX1.out.f 0
      clear HF1 HB1 HX1
      go_region
      clear x0 f0 hc0
      generalize (w8.setCell ⟨wr.heap.size, 0, none⟩ (.int .i64 (a + (c + C)))).drew = w9 at HX2 HB2 ⊢
      have HF2 := Lib.hid (HF.out.call HB2.out)
      clear HB2 HF
      obtain ⟨x0, x1, x2, x3, x4, x5⟩ := HX2.out.all
      (try dsimp only at x0 x1 x2 x3 x4 x5)
      obtain ⟨g0, g1, g2, g3, g4, g5⟩ := HF2.out.bx.all
      simp only [Sd.zero, Ds.zero] at g0 g1 g2 g3 g4 g5
      have f0 := HF2.out.bx.f 0; have f1 := HF2.out.bx.f 1; have f2 := HF2.out.bx.f 2; have f3 := HF2.out.bx.f 3; have f4 := HF2.out.bx.f 4; have f5 := HF2.out.bx.f 5
      have HP := Lib.hid (HF2.out.bx.put ⟨a + (c + C), ⟨dn, dk, ds, dd, dc⟩⟩)
      have HQ := Lib.hid (HF2.out.be.trans (below_setsd (b := g) (w := w9) HF2.out.hg ⟨a + (c + C), ⟨dn, dk, ds, dd, dc⟩⟩))
      go_wp2_with fail
      change bodyPost _ _ _ _ _ (setsd w9 g ⟨a + (c + C), ⟨dn, dk, ds, dd, dc⟩⟩)
      clear x0 x1 x2 x3 x4 x5 g0 g1 g2 g3 g4 g5 f0 f1 f2 f3 f4 f5
      generalize setsd w9 g ⟨a + (c + C), ⟨dn, dk, ds, dd, dc⟩⟩ = w5 at HP HQ ⊢
      obtain ⟨x0, x1, x2, x3, x4, x5⟩ := HP.out.all
      (try dsimp only at x0 x1 x2 x3 x4 x5)
      exact bodyPost_ret (v := sdVal ⟨a + (c + C), ⟨dn, dk, ds, dd, dc⟩⟩) (by simp [sdVal, results, Tryz.results143, go_sem, x0, x1, x2, x3, x4, x5]) rfl ⟨by rw [HFF.out], HQ.out⟩
end

section
open Go.RowKit
set_option linter.unusedSimpArgs false in
set_option maxRecDepth 100000 in
set_option maxHeartbeats 2000000 in
theorem sdEnd_any (x : Sd) (w : World) (h : IntKind.i64.wrap (x.st + x.d.dur) = x.st + x.d.dur) :
    Calls Tryz.prog 150 #[sdVal x] w fun e w' => e = .returned (.int .i64 x.fin) ∧ Below w.heap.size w w' := by
  obtain ⟨a, dn, dk, ds, dd, dc, rfl⟩ := sd_cases x
  have HF := Lib.hid (show (⟨a, ⟨dn, dk, ds, dd, dc⟩⟩ : Sd).fin = a + dd from rfl)
  dsimp only at h
  have HX1 := Lib.hid (SdBk.new (T := 141) (x := ⟨a, ⟨dn, dk, ds, dd, dc⟩⟩) w)
  have HB1 := Lib.hid ((Below.refl w.heap.size w).alloc (Nat.le_refl _) (.cells #[.int .i64 a, .int .i64 dn, .int .i64 dk, .int .i64 ds, .int .i64 dd, .bool dc] 141))
  unfold sdVal
  go_enter Tryz.func150, Tryz.ntmps150
  go_upto_region 1 with fail
  generalize w.alloc (.cells #[.int .i64 a, .int .i64 dn, .int .i64 dk, .int .i64 ds, .int .i64 dd, .bool dc] 141) = w8 at HX1 HB1 ⊢
  obtain ⟨x0, x1, x2, x3, x4, x5⟩ := HX1.out.all
  (try dsimp only at x0 x1 x2 x3 x4 x5)
  go_wp2_with fail
  go_ret
  exact ⟨by rw [HF.out]; rfl, HB1.out⟩
set_option linter.unusedSimpArgs false in
set_option maxRecDepth 100000 in
set_option maxHeartbeats 4000000 in
theorem gapAfter_any (b n : Nat) (C : Int) (ts : Nat → List Sd) (x : Sd) (w : World) (h : RdTm w b C ts) (hn : n < 32) (ho : SdOk C (ts n)) (hx : x.d.node = (n : Int)) (h0 : 0 ≤ x.st) (h1 : x.st ≤ 40000) :
    Calls Tryz.prog 89 #[.pointer (some ⟨b, 0, none⟩), sdVal x] w fun e w' => e = .returned (.int .i64 (gapAfter C (ts n) x)) ∧ Below w.heap.size w w' := by
  obtain ⟨a, dn, dk, ds, dd, dc, rfl⟩ := sd_cases x
  dsimp only at hx h0 h1
  subst hx
  have hw1 : IntKind.i64.wrap (a + 1) = a + 1 := by rw [IntKind.wrap_i64]; omega
  have HFF := Lib.hid (fun W (hW : RdTm W b C ts) => firstFrom_any b n C (a + 1) ts W hW hn ho (by omega) (by omega))
  have hb := ho.first_le (t := a + 1) (by omega)
  have HG := Lib.hid (show gapAfter C (ts n) ⟨a, ⟨(n : Int), dk, ds, dd, dc⟩⟩ = (firstFrom C (ts n) (a + 1)).st - a from rfl)
  generalize firstFrom C (ts n) (a + 1) = r at HFF hb HG
  obtain ⟨ra, rn, rk, rs, rd, rc, rfl⟩ := sd_cases r
  dsimp only at hb HG
  have hw2 : IntKind.i64.wrap (ra - a) = ra - a := by rw [IntKind.wrap_i64]; omega
  have HX1 := Lib.hid (SdBk.new (T := 141) (x := ⟨a, ⟨(n : Int), dk, ds, dd, dc⟩⟩) w)
  have HB1 := Lib.hid ((Below.refl w.heap.size w).alloc (Nat.le_refl _) (.cells #[.int .i64 a, .int .i64 (n : Int), .int .i64 dk, .int .i64 ds, .int .i64 dd, .bool dc] 141))
  have HT1 := Lib.hid (h.below ((Below.refl w.heap.size w).alloc (Nat.le_refl _) (.cells #[.int .i64 a, .int .i64 (n : Int), .int .i64 dk, .int .i64 ds, .int .i64 dd, .bool dc] 141)))
  clear h ho hn
  unfold sdVal at HFF ⊢
  go_enter Tryz.func89, Tryz.ntmps89
  go_upto_region 1 with fail
  generalize w.alloc (.cells #[.int .i64 a, .int .i64 (n : Int), .int .i64 dk, .int .i64 ds, .int .i64 dd, .bool dc] 141) = w8 at HX1 HB1 HT1 ⊢
  have hq : w8.drew.cell? ⟨w.heap.size, 0, none⟩ = some (.int .i64 a) ∧ w8.drew.cell? ⟨w.heap.size, 1, none⟩ = some (.int .i64 (n : Int)) := ⟨HX1.out.all.1, HX1.out.all.2.1⟩
  have HB2 := Lib.hid (Below.drew HB1.out)
  have HX2 := Lib.hid (HX1.out.below (Below.drew (Below.refl w8.heap.size w8)) HX1.out.lt)
  have HT2 := Lib.hid (HT1.out.below (Below.drew (Below.refl w8.heap.size w8)))
  clear HX1 HB1 HT1
  refine wp_region_held_drew (S := fun w' => w'.cell? ⟨w.heap.size, 0, none⟩ = some (.int .i64 a) ∧ w'.cell? ⟨w.heap.size, 1, none⟩ = some (.int .i64 (n : Int))) (by kernel_rfl) (hq) (fun hHeld => ?_)
  generalize w8.drew = wd at HX2 HT2 HB2 hq hHeld ⊢
  refine wpAnyH_take (i := 0) (v := ?_) rfl (by kernel_rfl) (by kernel_rfl) (by kernel_rfl) (fun _ _ _ h => h) (Or.inl ⟨by rfl, ?_⟩) (by assumption) ?_
  rotate_left
  · (intro w hSw; (try dsimp only at hSw); go_simp; (try with_reducible rfl))
  try simp only [pa, pb, pc, Act.put, pe, pf, pg]
  refine wpAnyH_take (i := 1) (v := ?_) rfl (by kernel_rfl) (by kernel_rfl) (by kernel_rfl) (fun _ _ _ h => h) (Or.inl ⟨by rfl, ?_⟩) (by assumption) ?_
  rotate_left
  · (intro w hSw; (try dsimp only at hSw); go_simp; (try with_reducible rfl))
  try simp only [pa, pb, pc, Act.put, pe, pf, pg]
  refine wpAnyH_take (i := 2) (v := ?_) rfl (by kernel_rfl) (by kernel_rfl) (by kernel_rfl) (fun _ _ _ h => h) (Or.inl ⟨by rfl, ?_⟩) (by assumption) ?_
  rotate_left
  · (intro w hSw; (try dsimp only at hSw); go_simp; (try with_reducible rfl))
  try simp only [pa, pb, pc, Act.put, pe, pf, pg]
  refine wpAnyH_take (i := 3) (v := ?_) rfl (by kernel_rfl) (by kernel_rfl) (by kernel_rfl) (fun _ _ _ h => h) (Or.inl ⟨by rfl, ?_⟩) (by assumption) ?_
  rotate_left
  · (intro w hSw; (try dsimp only at hSw); go_simp; (try with_reducible rfl))
  try simp only [pa, pb, pc, Act.put, pe, pf, pg]
  refine wpAnyH_take (i := 4) (v := ?_) rfl (by kernel_rfl) (by kernel_rfl) (by kernel_rfl) (fun _ _ _ h => h) (Or.inl ⟨by rfl, ?_⟩) (by assumption) ?_
  rotate_left
  · (intro w hSw; (try dsimp only at hSw); go_simp; (try with_reducible rfl))
  try simp only [pa, pb, pc, Act.put, pe, pf, pg]
  refine wpAnyH_take (i := 5) (v := ?_) rfl (by kernel_rfl) (by kernel_rfl) (by kernel_rfl) (fun _ _ _ h => h) (Or.inl ⟨by rfl, ?_⟩) (by assumption) ?_
  rotate_left
  · (intro w hSw; (try dsimp only at hSw); go_simp; (try with_reducible rfl))
  try simp only [pa, pb, pc, Act.put, pe, pf, pg]
  refine wpAnyH_take (i := 6) (v := ?_) rfl (by kernel_rfl) (by kernel_rfl) (by kernel_rfl) (fun _ _ _ h => h) (Or.inl ⟨by rfl, ?_⟩) (by assumption) ?_
  rotate_left
  · (intro w hSw; (try dsimp only at hSw); go_simp; (try with_reducible rfl))
  try simp only [pa, pb, pc, Act.put, pe, pf, pg]
  refine wpAnyH_take (i := 9) (v := ?_) rfl (by kernel_rfl) (by kernel_rfl) (by kernel_rfl) (fun _ _ _ h => h) (Or.inl ⟨by rfl, ?_⟩) (by assumption) ?_
  rotate_left
  · (intro w hSw; (try dsimp only at hSw); go_simp; (try with_reducible rfl))
  try simp only [pa, pb, pc, Act.put, pe, pf, pg]
  refine wpAnyH_take (i := 10) (v := ?_) rfl (by kernel_rfl) (by kernel_rfl) (by kernel_rfl) (fun _ _ _ h => h) (Or.inl ⟨by rfl, ?_⟩) (by assumption) ?_
  rotate_left
  · (intro w hSw; (try dsimp only at hSw); go_simp; (try with_reducible rfl))
  try simp only [pa, pb, pc, Act.put, pe, pf, pg]
  refine wpAnyH_ready (rs := [7]) (by kernel_rfl) (by simp) (AllReadyH.cons rfl (fun K hK => ?_) AllReadyH.nil)
  go_simp
  refine (HFF.out wd HT2.out).mono ?_
  rintro e w3 ⟨rfl, b3⟩
  have hq3 : w3.cell? ⟨w.heap.size, 0, none⟩ = some (.int .i64 a) ∧ w3.cell? ⟨w.heap.size, 1, none⟩ = some (.int .i64 (n : Int)) := ⟨(HX2.out.below b3 HX2.out.lt).all.1, (HX2.out.below b3 HX2.out.lt).all.2.1⟩
  have HB3 := Lib.hid (below_two HB2.out b3)
  clear b3
  go_wp2_with fail
  refine hK.out _ _ ?_ (fun hHeld => ?_)
  · exact hq3
  clear hK K
  try simp only [pa, pb, pc, Act.put, pe, pf, pg]
  refine wpAnyH_take (i := 8) (v := .int .i64 ra) rfl (by kernel_rfl) (by kernel_rfl) (by kernel_rfl) (fun _ _ _ h => h) (Or.inl ⟨by rfl, fun w hSw => by rfl⟩) (by assumption) ?_
  try simp only [pa, pb, pc, Act.put, pe, pf, pg]
  refine wpAnyH_take (i := 11) (v := ?_) rfl (by kernel_rfl) (by kernel_rfl) (by kernel_rfl) (fun _ _ _ h => h) (Or.inl ⟨by rfl, ?_⟩) (by assumption) ?_
  rotate_left
  · (intro w hSw; (try dsimp only at hSw); go_simp; (try with_reducible rfl))
  try simp only [pa, pb, pc, Act.put, pe, pf, pg]
  refine wpAnyH_take (i := 12) (v := ?_) rfl (by kernel_rfl) (by kernel_rfl) (by kernel_rfl) (fun _ _ _ h => h) (Or.inl ⟨by rfl, ?_⟩) (by assumption) ?_
  rotate_left
  · (intro w hSw; (try dsimp only at hSw); go_simp; (try with_reducible rfl))
  try simp only [pa, pb, pc, Act.put, pe, pf, pg]
  refine wpAnyH_done (by kernel_rfl) ?_ _
  go_wp2_with fail
  go_ret
  exact ⟨by rw [HG.out]; rfl, HB3.out⟩
set_option linter.unusedSimpArgs false in
set_option maxRecDepth 100000 in
set_option maxHeartbeats 4000000 in
theorem chainM_any (b n m : Nat) (C z : Int) (ts : Nat → List Sd) (w : World) (h : RdTm w b C ts) (hn : n < 32) (hm : m < 32) (ho : SdOk C (ts n)) (hp : SdOk C (ts m)) (h0 : 0 ≤ z) (h1 : z ≤ 40000) :
    Calls Tryz.prog 107 #[.pointer (some ⟨b, 0, none⟩), .int .i64 z, .int .i64 (n : Int), .int .i64 (m : Int)] w fun e w' => e = .returned (.int .i64 (chainFrom C (ts n) (ts m) z)) ∧ Below w.heap.size w w' := by
  have HFF := Lib.hid (firstFrom_any b n C z ts w h hn ho h0 (by omega))
  have hb := ho.first_le (t := z) h0
  have HG := Lib.hid (show chainFrom C (ts n) (ts m) z = (firstFrom C (ts m) (firstFrom C (ts n) z).fin).fin - z from rfl)
  generalize firstFrom C (ts n) z = r at HFF hb HG
  obtain ⟨a, dn, dk, ds, dd, dc, rfl⟩ := sd_cases r
  dsimp only at hb
  have HE := Lib.hid (show (⟨a, ⟨dn, dk, ds, dd, dc⟩⟩ : Sd).fin = a + dd from rfl)
  rw [HE.out] at HG
  have HEN := Lib.hid (fun W => sdEnd_any ⟨a, ⟨dn, dk, ds, dd, dc⟩⟩ W (show IntKind.i64.wrap (a + dd) = a + dd by rw [IntKind.wrap_i64]; omega))
  rw [HE.out] at HEN
  have HF2 := Lib.hid (fun W (hW : RdTm W b C ts) => firstFrom_any b m C (a + dd) ts W hW hm hp (by omega) (by omega))
  have hb2 := hp.first_le (t := a + dd) (by omega)
  generalize firstFrom C (ts m) (a + dd) = r at HF2 hb2 HG
  obtain ⟨ra, rn, rk, rs, rd, rc, rfl⟩ := sd_cases r
  dsimp only at hb2
  have HE2 := Lib.hid (show (⟨ra, ⟨rn, rk, rs, rd, rc⟩⟩ : Sd).fin = ra + rd from rfl)
  rw [HE2.out] at HG
  have HEN2 := Lib.hid (fun W => sdEnd_any ⟨ra, ⟨rn, rk, rs, rd, rc⟩⟩ W (show IntKind.i64.wrap (ra + rd) = ra + rd by rw [IntKind.wrap_i64]; omega))
  rw [HE2.out] at HEN2
  have hw2 : IntKind.i64.wrap (ra + rd - z) = ra + rd - z := by rw [IntKind.wrap_i64]; omega
  have HT := Lib.hid h
  clear h ho hp hn hm HE HE2
  unfold sdVal at HFF HF2 HEN HEN2
  go_enter Tryz.func107, Tryz.ntmps107
  go_wp2_with fail
  refine HFF.out.mono ?_
  rintro e w2 ⟨rfl, b2⟩
  have HT2 := Lib.hid (HT.out.below b2)
  have HB2 := Lib.hid b2
  have bal := (Below.refl w2.heap.size w2).alloc (Nat.le_refl _) (.cells #[.int .i64 a, .int .i64 dn, .int .i64 dk, .int .i64 ds, .int .i64 dd, .bool dc] 141)
  have HX1 := Lib.hid (SdBk.new (T := 141) (x := ⟨a, ⟨dn, dk, ds, dd, dc⟩⟩) w2)
  have HT3 := Lib.hid (HT2.out.below bal)
  have HB3 := Lib.hid (below_two HB2.out bal)
  clear b2 bal HT2 HB2 HFF HT
  go_upto_region 2 with fail
  generalize w2.alloc (.cells #[.int .i64 a, .int .i64 dn, .int .i64 dk, .int .i64 ds, .int .i64 dd, .bool dc] 141) = w3 at HX1 HB3 HT3 ⊢
  obtain ⟨x0, x1, x2, x3, x4, x5⟩ := HX1.out.all
  (try dsimp only at x0 x1 x2 x3 x4 x5)
  go_wp2_with fail
  refine (HEN.out w3).mono ?_
  rintro e w4 ⟨rfl, b4⟩
  have HT4 := Lib.hid (HT3.out.below b4)
  have HB4 := Lib.hid (below_two HB3.out b4)
  clear b4 HT3 HB3 x0 x1 x2 x3 x4 x5
  go_wp2_with fail
  refine (HF2.out w4 HT4.out).mono ?_
  rintro e w5 ⟨rfl, b5⟩
  have HB5 := Lib.hid (below_two HB4.out b5)
  have bal := (Below.refl w5.heap.size w5).alloc (Nat.le_refl _) (.cells #[.int .i64 ra, .int .i64 rn, .int .i64 rk, .int .i64 rs, .int .i64 rd, .bool rc] 141)
  have HX2 := Lib.hid (SdBk.new (T := 141) (x := ⟨ra, ⟨rn, rk, rs, rd, rc⟩⟩) w5)
  have HB6 := Lib.hid (below_two HB5.out bal)
  clear b5 bal HB4 HB5 HX1
  go_upto_region 3 with fail
  generalize w5.alloc (.cells #[.int .i64 ra, .int .i64 rn, .int .i64 rk, .int .i64 rs, .int .i64 rd, .bool rc] 141) = w6 at HX2 HB6 ⊢
  obtain ⟨x0, x1, x2, x3, x4, x5⟩ := HX2.out.all
  (try dsimp only at x0 x1 x2 x3 x4 x5)
  go_wp2_with fail
  refine (HEN2.out w6).mono ?_
  rintro e w7 ⟨rfl, b7⟩
  have HB7 := Lib.hid (below_two HB6.out b7)
  clear b7 x0 x1 x2 x3 x4 x5 HB6
  go_wp2_with fail
  go_ret
  exact ⟨by rw [HG.out]; rfl, HB7.out⟩
set_option linter.unusedSimpArgs false in
set_option maxRecDepth 100000 in
set_option maxHeartbeats 4000000 in
theorem chainC_any (b n m p6 p7 p8 : Nat) (C : Int) (ts : Nat → List Sd) (x : Sd) (w : World) (h : RdTm w b C ts) (hn : n < 32) (hm : m < 32) (ho : SdOk C (ts n)) (hp : SdOk C (ts m)) (h0 : 0 ≤ x.st) (h1 : x.st ≤ 32000)
    (c6 : w.cell? ⟨p6, 0, none⟩ = some (.pointer (some ⟨b, 0, none⟩))) (c7 : w.cell? ⟨p7, 0, none⟩ = some (.int .i64 (n : Int))) (c8 : w.cell? ⟨p8, 0, none⟩ = some (.int .i64 (m : Int))) :
    Calls Tryz.prog 106 #[sdVal x, .pointer (some ⟨p6, 0, none⟩), .pointer (some ⟨p7, 0, none⟩), .pointer (some ⟨p8, 0, none⟩)] w fun e w' => e = .returned (.int .i64 (chainFrom C (ts n) (ts m) (x.st + 1))) ∧ Below w.heap.size w w' := by
  obtain ⟨a, dn, dk, ds, dd, dc, rfl⟩ := sd_cases x
  dsimp only at h0 h1 ⊢
  have hw1 : IntKind.i64.wrap (a + 1) = a + 1 := by rw [IntKind.wrap_i64]; omega
  have HCM := Lib.hid (fun W (hW : RdTm W b C ts) => chainM_any b n m C (a + 1) ts W hW hn hm ho hp (by omega) (by omega))
  generalize chainFrom C (ts n) (ts m) (a + 1) = R at HCM ⊢
  have bal := (Below.refl w.heap.size w).alloc (Nat.le_refl _) (.cells #[.int .i64 a, .int .i64 dn, .int .i64 dk, .int .i64 ds, .int .i64 dd, .bool dc] 141)
  have HX1 := Lib.hid (SdBk.new (T := 141) (x := ⟨a, ⟨dn, dk, ds, dd, dc⟩⟩) w)
  have HT1 := Lib.hid (h.below bal)
  have HB1 := Lib.hid bal
  have k6 := (bal.cell (p := ⟨p6, 0, none⟩) (World.block_lt_of_cell? w _ c6)).trans c6
  have k7 := (bal.cell (p := ⟨p7, 0, none⟩) (World.block_lt_of_cell? w _ c7)).trans c7
  have k8 := (bal.cell (p := ⟨p8, 0, none⟩) (World.block_lt_of_cell? w _ c8)).trans c8
  clear h ho hp hn hm c6 c7 c8 bal
  unfold sdVal
  go_enter Tryz.func106, Tryz.ntmps106
  go_upto_region 1 with fail
  generalize w.alloc (.cells #[.int .i64 a, .int .i64 dn, .int .i64 dk, .int .i64 ds, .int .i64 dd, .bool dc] 141) = w8 at HX1 HB1 HT1 k6 k7 k8 ⊢
  obtain ⟨x0, x1, x2, x3, x4, x5⟩ := HX1.out.all
  (try dsimp only at x0 x1 x2 x3 x4 x5)
  go_wp2_with fail
  refine (HCM.out w8 HT1.out).mono ?_
  rintro e w7 ⟨rfl, b7⟩
  clear x0 x1 x2 x3 x4 x5 k6 k7 k8
  go_wp2_with fail
  go_ret
  exact ⟨rfl, below_two HB1.out b7⟩
end

section
open Go.RowKit
theorem max_if17 (a b : Int) : (if a < b then b else a) = max a b := by split <;> omega
theorem min_if17 (a b : Int) : (if b < a then b else a) = min a b := by split <;> omega
theorem RdSd.cell17 {w : World} {bb off n : Nat} {t : List Sd} (h : RdSd w (some ⟨bb, off, none⟩) n t) {k : Nat} (hk : k < n) : SdIn w bb (off + k * 6) (sdOf t k) := by
  obtain ⟨b, o, e, -, hx⟩ := h.at hk
  cases e
  exact hx
theorem RdE.cell17 {w : World} {bb off n : Nat} {t : List Sl} (h : RdE w (some ⟨bb, off, none⟩) n t) {k : Nat} (hk : k < n) : SlIn w bb (off + k * 8) (slOf t k) := by
  obtain ⟨b, o, e, -, hx⟩ := h.at hk
  cases e
  exact hx
set_option linter.unusedSimpArgs false in
set_option maxRecDepth 100000 in
set_option maxHeartbeats 4000000 in
theorem topGap_any (so : Option Addr) (n cap : Nat) (t : List Sd) (l : List Int) (b : Nat) (w : World) (hr : RdSd w so n t) (hn : 0 < n) (hl : l.length = n) (hc : n ≤ cap) (hc2 : cap ≤ 9223372036854775807)
    (HC : ∀ i, i < n → ∀ W, Below w.heap.size w W → Calls Tryz.prog 89 #[.pointer (some ⟨b, 0, none⟩), (sdVal (sdOf t i))] W fun e w' => e = .returned (.int .i64 (l.getD i 0)) ∧ Below W.heap.size W w') :
    Calls Tryz.prog 92 #[.slice so n cap, .func (.func 89) #[.pointer (some ⟨b, 0, none⟩)] #[]] w fun e w' => e = .returned (.int .i64 (topL l)) ∧ Below w.heap.size w w' := by
  obtain ⟨bb, off, rfl, -, hx⟩ := hr.at hn
  rw [Nat.zero_mul, Nat.add_zero] at hx
  obtain ⟨m, rfl⟩ : ∃ m, n = m + 1 := ⟨n - 1, by omega⟩
  have H1 := Lib.hid (topL_one (l := l) (by omega))
  have HN := Lib.hid (fun k (h0 : 0 < k) (hk : k < m + 1) => topL_next (l := l) h0 (by rw [hl]; exact hk))
  have HA := Lib.hid (show l.take (m + 1) = l from List.take_of_length_le (by omega))
  have HR := Lib.hid hr
  have H0 := Lib.hid (HC 0 (by omega) w (Below.refl _ _))
  have HCC := Lib.hid HC
  have hm := hl
  generalize l.getD 0 0 = q0 at H1 H0
  clear hl HC hr
  generalize hy : sdOf t 0 = y at hx H0
  clear hy
  obtain ⟨a, dn, dk, ds, dd, dc, rfl⟩ := sd_cases y
  unfold sdVal at H0
  (try dsimp only at H0)
  obtain ⟨x0, x1, x2, x3, x4, x5⟩ := hx.all
  (try dsimp only at x0 x1 x2 x3 x4 x5)
  clear hx
  obtain ⟨c, rfl⟩ : ∃ c, cap = c + 1 := ⟨cap - 1, by omega⟩
  by_cases hc1 : c = 0
  · subst hc1
    have hm0 : m = 0 := by omega
    subst hm0
    go_enter Tryz.func92, Tryz.ntmps92
    go_wp2_with fail
    refine H0.out.mono ?_
    rintro e w2 ⟨rfl, b2⟩
    clear x0 x1 x2 x3 x4 x5
    go_wp2_with fail
    go_loopw [5, 16] (fun s i wr => s = .int .i64 q0 ∧ i = .int .i64 0 ∧ wr = w2) (fun _ _ _ => 0)
    case atStart => exact ⟨rfl, rfl, rfl⟩
    case round =>
      obtain ⟨rfl, rfl, rfl⟩ := hrel
      go_wp2_with fail
      go_ret
      exact ⟨by rw [show topL l = q0 from by rw [← HA.out]; exact H1.out]; rfl, b2⟩
  · obtain ⟨d, rfl⟩ : ∃ d, c = d + 1 := ⟨c - 1, by omega⟩
    have hd1 : m ≤ d + 1 := by omega
    go_enter Tryz.func92, Tryz.ntmps92
    go_wp2_with fail
    refine H0.out.mono ?_
    rintro e w2 ⟨rfl, b2⟩
    clear x0 x1 x2 x3 x4 x5
    have HB2 := Lib.hid b2
    clear b2
    go_wp2_with fail
    go_loopw [5, 16] (fun s i wr => ∃ k : Nat, k ≤ m ∧ i = .int .i64 k ∧ s = .int .i64 (topL (l.take (k + 1))) ∧ Hid (Below w.heap.size w wr)) (fun _ i _ => m - (intOf i).toNat)
    case atStart => exact ⟨0, Nat.zero_le _, rfl, by rw [H1.out], HB2⟩
    case round =>
      clear HB2
      obtain ⟨k, hk, rfl, rfl, HB⟩ := hrel
      by_cases hlt : k < m
      · have hx := (HR.out.below HB.out).cell17 (k := k + 1) (by omega)
        rw [show off + (k + 1) * 6 = off + 6 + k * 6 by omega] at hx
        have H2 := Lib.hid (HN.out (k + 1) (by omega) (by omega))
        have HCK := Lib.hid (fun W hW => HCC.out (k + 1) (by omega) W hW)
        generalize l.getD (k + 1) 0 = q at H2 HCK
        generalize topL (l.take (k + 1)) = pp at H2 ⊢
        generalize sdOf t (k + 1) = y at hx HCK
        obtain ⟨a, dn, dk, ds, dd, dc, rfl⟩ := sd_cases y
        unfold sdVal at HCK
        (try dsimp only at HCK)
        obtain ⟨x0, x1, x2, x3, x4, x5⟩ := hx.all
        (try dsimp only at x0 x1 x2 x3 x4 x5)
        have bal := (Below.refl wr.heap.size wr).alloc (Nat.le_refl _) (.cells #[.int .i64 a, .int .i64 dn, .int .i64 dk, .int .i64 ds, .int .i64 dd, .bool dc] 141)
        have HX1 := Lib.hid (SdBk.new (T := 141) (x := ⟨a, ⟨dn, dk, ds, dd, dc⟩⟩) wr)
        have HB1 := Lib.hid (below_two HB.out bal)
        clear hx bal HB
        go_upto_region 5 with fail
        clear x0 x1 x2 x3 x4 x5
        generalize wr.alloc (.cells #[.int .i64 a, .int .i64 dn, .int .i64 dk, .int .i64 ds, .int .i64 dd, .bool dc] 141) = w8 at HX1 HB1 ⊢
        obtain ⟨x0, x1, x2, x3, x4, x5⟩ := HX1.out.all
        (try dsimp only at x0 x1 x2 x3 x4 x5)
        go_wp2_with fail
        refine (HCK.out w8 HB1.out).mono ?_
        rintro e w9 ⟨rfl, b9⟩
        have HB9 := Lib.hid (below_two HB1.out b9)
        clear b9 HB1 HCK x0 x1 x2 x3 x4 x5 HX1
        go_wp2_with fail
        go_roundw
        case rel => exact ⟨k + 1, by omega, by go_num, by rw [H2.out, max_if17], HB9⟩
        case measure => simp [intOf]; omega
      · have hkm : k = m := by omega
        subst hkm
        go_wp2_with fail
        go_ret
        exact ⟨by rw [show topL l = topL (l.take (k + 1)) from by rw [HA.out]]; rfl, HB.out⟩
set_option linter.unusedSimpArgs false in
set_option maxRecDepth 100000 in
set_option maxHeartbeats 4000000 in
theorem lowGap_any (so : Option Addr) (n cap : Nat) (t : List Sd) (l : List Int) (b : Nat) (w : World) (hr : RdSd w so n t) (hn : 0 < n) (hl : l.length = n) (hc : n ≤ cap) (hc2 : cap ≤ 9223372036854775807)
    (HC : ∀ i, i < n → ∀ W, Below w.heap.size w W → Calls Tryz.prog 89 #[.pointer (some ⟨b, 0, none⟩), (sdVal (sdOf t i))] W fun e w' => e = .returned (.int .i64 (l.getD i 0)) ∧ Below W.heap.size W w') :
    Calls Tryz.prog 94 #[.slice so n cap, .func (.func 89) #[.pointer (some ⟨b, 0, none⟩)] #[]] w fun e w' => e = .returned (.int .i64 (lowL l)) ∧ Below w.heap.size w w' := by
  obtain ⟨bb, off, rfl, -, hx⟩ := hr.at hn
  rw [Nat.zero_mul, Nat.add_zero] at hx
  obtain ⟨m, rfl⟩ : ∃ m, n = m + 1 := ⟨n - 1, by omega⟩
  have H1 := Lib.hid (lowL_one (l := l) (by omega))
  have HN := Lib.hid (fun k (h0 : 0 < k) (hk : k < m + 1) => lowL_next (l := l) h0 (by rw [hl]; exact hk))
  have HA := Lib.hid (show l.take (m + 1) = l from List.take_of_length_le (by omega))
  have HR := Lib.hid hr
  have H0 := Lib.hid (HC 0 (by omega) w (Below.refl _ _))
  have HCC := Lib.hid HC
  have hm := hl
  generalize l.getD 0 0 = q0 at H1 H0
  clear hl HC hr
  generalize hy : sdOf t 0 = y at hx H0
  clear hy
  obtain ⟨a, dn, dk, ds, dd, dc, rfl⟩ := sd_cases y
  unfold sdVal at H0
  (try dsimp only at H0)
  obtain ⟨x0, x1, x2, x3, x4, x5⟩ := hx.all
  (try dsimp only at x0 x1 x2 x3 x4 x5)
  clear hx
  obtain ⟨c, rfl⟩ : ∃ c, cap = c + 1 := ⟨cap - 1, by omega⟩
  by_cases hc1 : c = 0
  · subst hc1
    have hm0 : m = 0 := by omega
    subst hm0
    go_enter Tryz.func94, Tryz.ntmps94
    go_wp2_with fail
    refine H0.out.mono ?_
    rintro e w2 ⟨rfl, b2⟩
    clear x0 x1 x2 x3 x4 x5
    go_wp2_with fail
    go_loopw [5, 16] (fun s i wr => s = .int .i64 q0 ∧ i = .int .i64 0 ∧ wr = w2) (fun _ _ _ => 0)
    case atStart => exact ⟨rfl, rfl, rfl⟩
    case round =>
      obtain ⟨rfl, rfl, rfl⟩ := hrel
      go_wp2_with fail
      go_ret
      exact ⟨by rw [show lowL l = q0 from by rw [← HA.out]; exact H1.out]; rfl, b2⟩
  · obtain ⟨d, rfl⟩ : ∃ d, c = d + 1 := ⟨c - 1, by omega⟩
    have hd1 : m ≤ d + 1 := by omega
    go_enter Tryz.func94, Tryz.ntmps94
    go_wp2_with fail
    refine H0.out.mono ?_
    rintro e w2 ⟨rfl, b2⟩
    clear x0 x1 x2 x3 x4 x5
    have HB2 := Lib.hid b2
    clear b2
    go_wp2_with fail
    go_loopw [5, 16] (fun s i wr => ∃ k : Nat, k ≤ m ∧ i = .int .i64 k ∧ s = .int .i64 (lowL (l.take (k + 1))) ∧ Hid (Below w.heap.size w wr)) (fun _ i _ => m - (intOf i).toNat)
    case atStart => exact ⟨0, Nat.zero_le _, rfl, by rw [H1.out], HB2⟩
    case round =>
      clear HB2
      obtain ⟨k, hk, rfl, rfl, HB⟩ := hrel
      by_cases hlt : k < m
      · have hx := (HR.out.below HB.out).cell17 (k := k + 1) (by omega)
        rw [show off + (k + 1) * 6 = off + 6 + k * 6 by omega] at hx
        have H2 := Lib.hid (HN.out (k + 1) (by omega) (by omega))
        have HCK := Lib.hid (fun W hW => HCC.out (k + 1) (by omega) W hW)
        generalize l.getD (k + 1) 0 = q at H2 HCK
        generalize lowL (l.take (k + 1)) = pp at H2 ⊢
        generalize sdOf t (k + 1) = y at hx HCK
        obtain ⟨a, dn, dk, ds, dd, dc, rfl⟩ := sd_cases y
        unfold sdVal at HCK
        (try dsimp only at HCK)
        obtain ⟨x0, x1, x2, x3, x4, x5⟩ := hx.all
        (try dsimp only at x0 x1 x2 x3 x4 x5)
        have bal := (Below.refl wr.heap.size wr).alloc (Nat.le_refl _) (.cells #[.int .i64 a, .int .i64 dn, .int .i64 dk, .int .i64 ds, .int .i64 dd, .bool dc] 141)
        have HX1 := Lib.hid (SdBk.new (T := 141) (x := ⟨a, ⟨dn, dk, ds, dd, dc⟩⟩) wr)
        have HB1 := Lib.hid (below_two HB.out bal)
        clear hx bal HB
        go_upto_region 5 with fail
        clear x0 x1 x2 x3 x4 x5
        generalize wr.alloc (.cells #[.int .i64 a, .int .i64 dn, .int .i64 dk, .int .i64 ds, .int .i64 dd, .bool dc] 141) = w8 at HX1 HB1 ⊢
        obtain ⟨x0, x1, x2, x3, x4, x5⟩ := HX1.out.all
        (try dsimp only at x0 x1 x2 x3 x4 x5)
        go_wp2_with fail
        refine (HCK.out w8 HB1.out).mono ?_
        rintro e w9 ⟨rfl, b9⟩
        have HB9 := Lib.hid (below_two HB1.out b9)
        clear b9 HB1 HCK x0 x1 x2 x3 x4 x5 HX1
        go_wp2_with fail
        go_roundw
        case rel => exact ⟨k + 1, by omega, by go_num, by rw [H2.out, min_if17], HB9⟩
        case measure => simp [intOf]; omega
      · have hkm : k = m := by omega
        subst hkm
        go_wp2_with fail
        go_ret
        exact ⟨by rw [show lowL l = lowL (l.take (k + 1)) from by rw [HA.out]]; rfl, HB.out⟩
set_option linter.unusedSimpArgs false in
set_option maxRecDepth 100000 in
set_option maxHeartbeats 4000000 in
theorem topChain_any (so : Option Addr) (n cap : Nat) (t : List Sd) (l : List Int) (p6 p7 p8 : Nat) (w : World) (hr : RdSd w so n t) (hn : 0 < n) (hl : l.length = n) (hc : n ≤ cap) (hc2 : cap ≤ 9223372036854775807)
    (HC : ∀ i, i < n → ∀ W, Below w.heap.size w W → Calls Tryz.prog 106 #[(sdVal (sdOf t i)), .pointer (some ⟨p6, 0, none⟩), .pointer (some ⟨p7, 0, none⟩), .pointer (some ⟨p8, 0, none⟩)] W fun e w' => e = .returned (.int .i64 (l.getD i 0)) ∧ Below W.heap.size W w') :
    Calls Tryz.prog 92 #[.slice so n cap, .func (.func 106) #[] #[.pointer (some ⟨p6, 0, none⟩), .pointer (some ⟨p7, 0, none⟩), .pointer (some ⟨p8, 0, none⟩)]] w fun e w' => e = .returned (.int .i64 (topL l)) ∧ Below w.heap.size w w' := by
  obtain ⟨bb, off, rfl, -, hx⟩ := hr.at hn
  rw [Nat.zero_mul, Nat.add_zero] at hx
  obtain ⟨m, rfl⟩ : ∃ m, n = m + 1 := ⟨n - 1, by omega⟩
  have H1 := Lib.hid (topL_one (l := l) (by omega))
  have HN := Lib.hid (fun k (h0 : 0 < k) (hk : k < m + 1) => topL_next (l := l) h0 (by rw [hl]; exact hk))
  have HA := Lib.hid (show l.take (m + 1) = l from List.take_of_length_le (by omega))
  have HR := Lib.hid hr
  have H0 := Lib.hid (HC 0 (by omega) w (Below.refl _ _))
  have HCC := Lib.hid HC
  have hm := hl
  generalize l.getD 0 0 = q0 at H1 H0
  clear hl HC hr
  generalize hy : sdOf t 0 = y at hx H0
  clear hy
  obtain ⟨a, dn, dk, ds, dd, dc, rfl⟩ := sd_cases y
  unfold sdVal at H0
  (try dsimp only at H0)
  obtain ⟨x0, x1, x2, x3, x4, x5⟩ := hx.all
  (try dsimp only at x0 x1 x2 x3 x4 x5)
  clear hx
  obtain ⟨c, rfl⟩ : ∃ c, cap = c + 1 := ⟨cap - 1, by omega⟩
  by_cases hc1 : c = 0
  · subst hc1
    have hm0 : m = 0 := by omega
    subst hm0
    go_enter Tryz.func92, Tryz.ntmps92
    go_wp2_with fail
    refine H0.out.mono ?_
    rintro e w2 ⟨rfl, b2⟩
    clear x0 x1 x2 x3 x4 x5
    go_wp2_with fail
    go_loopw [5, 16] (fun s i wr => s = .int .i64 q0 ∧ i = .int .i64 0 ∧ wr = w2) (fun _ _ _ => 0)
    case atStart => exact ⟨rfl, rfl, rfl⟩
    case round =>
      obtain ⟨rfl, rfl, rfl⟩ := hrel
      go_wp2_with fail
      go_ret
      exact ⟨by rw [show topL l = q0 from by rw [← HA.out]; exact H1.out]; rfl, b2⟩
  · obtain ⟨d, rfl⟩ : ∃ d, c = d + 1 := ⟨c - 1, by omega⟩
    have hd1 : m ≤ d + 1 := by omega
    go_enter Tryz.func92, Tryz.ntmps92
    go_wp2_with fail
    refine H0.out.mono ?_
    rintro e w2 ⟨rfl, b2⟩
    clear x0 x1 x2 x3 x4 x5
    have HB2 := Lib.hid b2
    clear b2
    go_wp2_with fail
    go_loopw [5, 16] (fun s i wr => ∃ k : Nat, k ≤ m ∧ i = .int .i64 k ∧ s = .int .i64 (topL (l.take (k + 1))) ∧ Hid (Below w.heap.size w wr)) (fun _ i _ => m - (intOf i).toNat)
    case atStart => exact ⟨0, Nat.zero_le _, rfl, by rw [H1.out], HB2⟩
    case round =>
      clear HB2
      obtain ⟨k, hk, rfl, rfl, HB⟩ := hrel
      by_cases hlt : k < m
      · have hx := (HR.out.below HB.out).cell17 (k := k + 1) (by omega)
        rw [show off + (k + 1) * 6 = off + 6 + k * 6 by omega] at hx
        have H2 := Lib.hid (HN.out (k + 1) (by omega) (by omega))
        have HCK := Lib.hid (fun W hW => HCC.out (k + 1) (by omega) W hW)
        generalize l.getD (k + 1) 0 = q at H2 HCK
        generalize topL (l.take (k + 1)) = pp at H2 ⊢
        generalize sdOf t (k + 1) = y at hx HCK
        obtain ⟨a, dn, dk, ds, dd, dc, rfl⟩ := sd_cases y
        unfold sdVal at HCK
        (try dsimp only at HCK)
        obtain ⟨x0, x1, x2, x3, x4, x5⟩ := hx.all
        (try dsimp only at x0 x1 x2 x3 x4 x5)
        have bal := (Below.refl wr.heap.size wr).alloc (Nat.le_refl _) (.cells #[.int .i64 a, .int .i64 dn, .int .i64 dk, .int .i64 ds, .int .i64 dd, .bool dc] 141)
        have HX1 := Lib.hid (SdBk.new (T := 141) (x := ⟨a, ⟨dn, dk, ds, dd, dc⟩⟩) wr)
        have HB1 := Lib.hid (below_two HB.out bal)
        clear hx bal HB
        go_upto_region 5 with fail
        clear x0 x1 x2 x3 x4 x5
        generalize wr.alloc (.cells #[.int .i64 a, .int .i64 dn, .int .i64 dk, .int .i64 ds, .int .i64 dd, .bool dc] 141) = w8 at HX1 HB1 ⊢
        obtain ⟨x0, x1, x2, x3, x4, x5⟩ := HX1.out.all
        (try dsimp only at x0 x1 x2 x3 x4 x5)
        go_wp2_with fail
        refine (HCK.out w8 HB1.out).mono ?_
        rintro e w9 ⟨rfl, b9⟩
        have HB9 := Lib.hid (below_two HB1.out b9)
        clear b9 HB1 HCK x0 x1 x2 x3 x4 x5 HX1
        go_wp2_with fail
        go_roundw
        case rel => exact ⟨k + 1, by omega, by go_num, by rw [H2.out, max_if17], HB9⟩
        case measure => simp [intOf]; omega
      · have hkm : k = m := by omega
        subst hkm
        go_wp2_with fail
        go_ret
        exact ⟨by rw [show topL l = topL (l.take (k + 1)) from by rw [HA.out]]; rfl, HB.out⟩
set_option linter.unusedSimpArgs false in
set_option maxRecDepth 100000 in
set_option maxHeartbeats 4000000 in
theorem lowPause_any (so : Option Addr) (n cap : Nat) (t : List Sl) (l : List Int) (w : World) (hr : RdE w so n t) (hn : 0 < n) (hl : l.length = n) (hc : n ≤ cap) (hc2 : cap ≤ 9223372036854775807)
    (HC : ∀ i, i < n → ∀ W, Below w.heap.size w W → Calls Tryz.prog 101 #[(slVal (slOf t i))] W fun e w' => e = .returned (.int .i64 (l.getD i 0)) ∧ Below W.heap.size W w') :
    Calls Tryz.prog 100 #[.slice so n cap, .func (.func 101) #[] #[]] w fun e w' => e = .returned (.int .i64 (lowL l)) ∧ Below w.heap.size w w' := by
  obtain ⟨bb, off, rfl, -, hx⟩ := hr.at hn
  rw [Nat.zero_mul, Nat.add_zero] at hx
  obtain ⟨m, rfl⟩ : ∃ m, n = m + 1 := ⟨n - 1, by omega⟩
  have H1 := Lib.hid (lowL_one (l := l) (by omega))
  have HN := Lib.hid (fun k (h0 : 0 < k) (hk : k < m + 1) => lowL_next (l := l) h0 (by rw [hl]; exact hk))
  have HA := Lib.hid (show l.take (m + 1) = l from List.take_of_length_le (by omega))
  have HR := Lib.hid hr
  have H0 := Lib.hid (HC 0 (by omega) w (Below.refl _ _))
  have HCC := Lib.hid HC
  have hm := hl
  generalize l.getD 0 0 = q0 at H1 H0
  clear hl HC hr
  generalize hy : slOf t 0 = y at hx H0
  clear hy
  obtain ⟨a, ar, as_, dn, dk, ds, dd, dc⟩ := y
  unfold slVal at H0
  (try dsimp only at H0)
  obtain ⟨x0, x1, x2, x3, x4, x5, x6, x7⟩ := hx.all8
  (try dsimp only at x0 x1 x2 x3 x4 x5 x6 x7)
  clear hx
  obtain ⟨c, rfl⟩ : ∃ c, cap = c + 1 := ⟨cap - 1, by omega⟩
  by_cases hc1 : c = 0
  · subst hc1
    have hm0 : m = 0 := by omega
    subst hm0
    go_enter Tryz.func100, Tryz.ntmps100
    go_wp2_with fail
    refine H0.out.mono ?_
    rintro e w2 ⟨rfl, b2⟩
    clear x0 x1 x2 x3 x4 x5 x6 x7
    go_wp2_with fail
    go_loopw [5, 16] (fun s i wr => s = .int .i64 q0 ∧ i = .int .i64 0 ∧ wr = w2) (fun _ _ _ => 0)
    case atStart => exact ⟨rfl, rfl, rfl⟩
    case round =>
      obtain ⟨rfl, rfl, rfl⟩ := hrel
      go_wp2_with fail
      go_ret
      exact ⟨by rw [show lowL l = q0 from by rw [← HA.out]; exact H1.out]; rfl, b2⟩
  · obtain ⟨d, rfl⟩ : ∃ d, c = d + 1 := ⟨c - 1, by omega⟩
    have hd1 : m ≤ d + 1 := by omega
    go_enter Tryz.func100, Tryz.ntmps100
    go_wp2_with fail
    refine H0.out.mono ?_
    rintro e w2 ⟨rfl, b2⟩
    clear x0 x1 x2 x3 x4 x5 x6 x7
    have HB2 := Lib.hid b2
    clear b2
    go_wp2_with fail
    go_loopw [5, 16] (fun s i wr => ∃ k : Nat, k ≤ m ∧ i = .int .i64 k ∧ s = .int .i64 (lowL (l.take (k + 1))) ∧ Hid (Below w.heap.size w wr)) (fun _ i _ => m - (intOf i).toNat)
    case atStart => exact ⟨0, Nat.zero_le _, rfl, by rw [H1.out], HB2⟩
    case round =>
      clear HB2
      obtain ⟨k, hk, rfl, rfl, HB⟩ := hrel
      by_cases hlt : k < m
      · have hx := (HR.out.below HB.out).cell17 (k := k + 1) (by omega)
        rw [show off + (k + 1) * 8 = off + 8 + k * 8 by omega] at hx
        have H2 := Lib.hid (HN.out (k + 1) (by omega) (by omega))
        have HCK := Lib.hid (fun W hW => HCC.out (k + 1) (by omega) W hW)
        generalize l.getD (k + 1) 0 = q at H2 HCK
        generalize lowL (l.take (k + 1)) = pp at H2 ⊢
        generalize slOf t (k + 1) = y at hx HCK
        obtain ⟨a, ar, as_, dn, dk, ds, dd, dc⟩ := y
        unfold slVal at HCK
        (try dsimp only at HCK)
        obtain ⟨x0, x1, x2, x3, x4, x5, x6, x7⟩ := hx.all8
        (try dsimp only at x0 x1 x2 x3 x4 x5 x6 x7)
        have bal := (Below.refl wr.heap.size wr).alloc (Nat.le_refl _) (.cells #[.int .i64 a, .int .i64 ar, .int .i64 as_, .int .i64 dn, .int .i64 dk, .int .i64 ds, .int .i64 dd, .bool dc] 65)
        have HX1 := Lib.hid (SlBk.new (T := 65) (x := ⟨a, ar, as_, ⟨dn, dk, ds, dd, dc⟩⟩) wr)
        have HB1 := Lib.hid (below_two HB.out bal)
        clear hx bal HB
        go_upto_region 5 with fail
        clear x0 x1 x2 x3 x4 x5 x6 x7
        generalize wr.alloc (.cells #[.int .i64 a, .int .i64 ar, .int .i64 as_, .int .i64 dn, .int .i64 dk, .int .i64 ds, .int .i64 dd, .bool dc] 65) = w8 at HX1 HB1 ⊢
        obtain ⟨x0, x1, x2, x3, x4, x5, x6, x7⟩ := HX1.out.all8
        (try dsimp only at x0 x1 x2 x3 x4 x5 x6 x7)
        go_wp2_with fail
        refine (HCK.out w8 HB1.out).mono ?_
        rintro e w9 ⟨rfl, b9⟩
        have HB9 := Lib.hid (below_two HB1.out b9)
        clear b9 HB1 HCK x0 x1 x2 x3 x4 x5 x6 x7 HX1
        go_wp2_with fail
        go_roundw
        case rel => exact ⟨k + 1, by omega, by go_num, by rw [H2.out, min_if17], HB9⟩
        case measure => simp [intOf]; omega
      · have hkm : k = m := by omega
        subst hkm
        go_wp2_with fail
        go_ret
        exact ⟨by rw [show lowL l = lowL (l.take (k + 1)) from by rw [HA.out]]; rfl, HB.out⟩
end

section
open Go.RowKit
theorem sent_node (L : List Sl) (node : Int) {i : Nat} (h : i < (sentL L node).length) : (sdOf (sentL L node) i).d.node = node := by
  obtain ⟨p, -, h2, h3⟩ := sentTo_at L node L.length i h
  unfold sentL
  rw [h3]
  exact h2
theorem lm_yes {m : Me} {k : Int} (h : codeLm m k = 0) : ∃ j : Nat, k = j ∧ j < m.modes.length ∧ Well m := by
  have h : codeMe m k = 0 := h
  obtain ⟨j, e, hj, hm, -⟩ := codeMe_yes h
  exact ⟨j, e, hj, medl_iff.1 hm⟩
theorem an_yes {m : Me} {k : Int} {ns : List Int} (h : codeAn m k ns = 0) : (∃ j : Nat, k = j ∧ j < m.modes.length ∧ Well m) ∧ ∀ n ∈ ns, ∃ nd : Nat, n = nd ∧ nd < 32 ∧ SdOk (cyc17 m k) (sent17 m k n) ∧ ∀ i, i < (sent17 m k n).length → (sdOf (sent17 m k n) i).d.node = n := by
  unfold codeAn at h
  by_cases hc : codeLm m k = 0
  · rw [if_pos hc] at h
    obtain ⟨j, rfl, hj, W⟩ := lm_yes hc
    refine ⟨⟨j, rfl, hj, W⟩, fun n hn => ?_⟩
    unfold codeSend at h
    split at h
    · cases h
    · rename_i h1
      split at h
      · cases h
      · rename_i h2
        simp only [List.any_eq_true, not_exists, not_and, Bool.not_eq_true] at h1 h2
        have g1 := h1 n hn
        have g2 := h2 n hn
        have g1 : (findNode m.nodes n).2 = 0 := by simpa [nodeUnknown] using g1
        have b := node_bit W.r2 g1
        exact ⟨n.toNat, by omega, by omega, sd_ok W hj g1 g2, fun i hi => sent_node _ _ hi⟩
  · rw [if_neg hc] at h
    exact absurd h hc
set_option linter.unusedSimpArgs false in
set_option maxRecDepth 100000 in
set_option maxHeartbeats 2000000 in
theorem pauseIn_any (x : Sl) (w : World) (h : isDesc x.desc = true) :
    Calls Tryz.prog 101 #[slVal x] w fun e w' => e = .returned (.int .i64 (pauseSl x)) ∧ Below w.heap.size w w' := by
  obtain ⟨a, ar, as_, dn, dk, ds, dd, dc⟩ := x
  have HP := Lib.hid (fun W => pauseOf_any dn dk ds dd dc W)
  have HE : pauseOf ⟨dn, dk, ds, dd, dc⟩ = (pauseSl ⟨a, ar, as_, ⟨dn, dk, ds, dd, dc⟩⟩, 0) := by unfold pauseOf; rw [if_pos h]; rfl
  rw [HE] at HP
  generalize pauseSl ⟨a, ar, as_, ⟨dn, dk, ds, dd, dc⟩⟩ = z at HP ⊢
  have HX1 := Lib.hid (SlBk.new (T := 65) (x := ⟨a, ar, as_, ⟨dn, dk, ds, dd, dc⟩⟩) w)
  have HB1 := Lib.hid ((Below.refl w.heap.size w).alloc (Nat.le_refl _) (.cells #[.int .i64 a, .int .i64 ar, .int .i64 as_, .int .i64 dn, .int .i64 dk, .int .i64 ds, .int .i64 dd, .bool dc] 65))
  clear h HE
  unfold slVal
  go_enter Tryz.func101, Tryz.ntmps101
  go_upto_region 1 with fail
  generalize w.alloc (.cells #[.int .i64 a, .int .i64 ar, .int .i64 as_, .int .i64 dn, .int .i64 dk, .int .i64 ds, .int .i64 dd, .bool dc] 65) = w8 at HX1 HB1 ⊢
  obtain ⟨x0, x1, x2, x3, x4, x5, x6, x7⟩ := HX1.out.all8
  (try dsimp only at x0 x1 x2 x3 x4 x5 x6 x7)
  go_wp2_with fail
  refine (HP.out w8).mono ?_
  rintro e w7 ⟨rfl, b7⟩
  clear x0 x1 x2 x3 x4 x5 x6 x7
  go_wp2_with fail
  go_ret
  exact ⟨rfl, below_two HB1.out b7⟩
set_option linter.unusedSimpArgs false in
set_option maxRecDepth 100000 in
set_option maxHeartbeats 2000000 in
theorem cellsIn_any (ao : Option Addr) (n cap : Nat) (t : List Sl) (w : World) (hr : RdE w ao n t) (hn : n ≤ 1000) (hd : ∀ x ∈ t, isDesc x.desc = true) :
    Calls Tryz.prog 96 #[.slice ao n cap] w fun e w' => e = .returned (.int .i64 (cellSum t)) ∧ Below w.heap.size w w' := by
  have HL := Lib.hid hr.len
  have HR := Lib.hid hr
  have HD := Lib.hid (fun k (hk : k < n) => (show isDesc (slOf t k).desc = true from hd _ (slOf_mem (by rw [hr.len]; exact hk))))
  have HNX := Lib.hid (fun k (hk : k < n) => cellSum_next (t := t) (k := k) (by rw [hr.len]; exact hk))
  have HIN := Lib.hid (fun k (hk : k ≤ n) => (by have := cellSum_in (t.take k); rw [List.length_take] at this; omega : 0 ≤ cellSum (t.take k) ∧ cellSum (t.take k) ≤ 461000))
  have HA := Lib.hid (show cellSum (t.take n) = cellSum t from by rw [List.take_of_length_le (by rw [hr.len]; omega)])
  clear hr hd
  go_enter Tryz.func96, Tryz.ntmps96
  go_wp2_with fail
  go_loopw [3, 10] (fun s i wr => ∃ k : Nat, k ≤ n ∧ i = .int .i64 k ∧ s = .int .i64 (cellSum (t.take k)) ∧ Hid (Below w.heap.size w wr)) (fun _ i _ => n - (intOf i).toNat)
  case atStart => exact ⟨0, Nat.zero_le _, rfl, rfl, Lib.hid (Below.refl _ _)⟩
  case round =>
    obtain ⟨k, hk, rfl, rfl, HB⟩ := hrel
    by_cases hlt : k < n
    · obtain ⟨bb, off, e0, hg, hx⟩ := (HR.out.below HB.out).at hlt
      subst e0
      have hdk := HD.out k hlt
      have HN := Lib.hid (HNX.out k hlt)
      have hin := HIN.out k hk
      generalize cellSum (t.take k) = z at HN hin ⊢
      generalize slOf t k = y at hx HN hdk
      obtain ⟨a, ar, as_, dn, dk, ds, dd, dc⟩ := y
      replace HN : Hid (cellSum (t.take (k + 1)) = z + cellsOf8 dk ds) := HN
      have HCN := Lib.hid (fun W => cellsNeeded_any dk ds W)
      rw [show cellsNeeded dk ds = (cellsOf8 dk ds, 0) from cells_ok hdk] at HCN
      have hcb := cells_in dk ds
      generalize cellsOf8 dk ds = q at HCN HN hcb
      have hw1 : IntKind.i64.wrap (z + q) = z + q := by rw [IntKind.wrap_i64]; omega
      obtain ⟨x0, x1, x2, x3, x4, x5, x6, x7⟩ := hx.all8
      (try dsimp only at x0 x1 x2 x3 x4 x5 x6 x7)
      have bal := (Below.refl wr.heap.size wr).alloc (Nat.le_refl _) (.cells #[.int .i64 a, .int .i64 ar, .int .i64 as_, .int .i64 dn, .int .i64 dk, .int .i64 ds, .int .i64 dd, .bool dc] 65)
      have HX1 := Lib.hid (SlBk.new (T := 65) (x := ⟨a, ar, as_, ⟨dn, dk, ds, dd, dc⟩⟩) wr)
      have HB1 := Lib.hid (below_two HB.out bal)
      clear bal hx HB hdk
      go_upto_region 5 with fail
      clear x0 x1 x2 x3 x4 x5 x6 x7
      generalize wr.alloc (.cells #[.int .i64 a, .int .i64 ar, .int .i64 as_, .int .i64 dn, .int .i64 dk, .int .i64 ds, .int .i64 dd, .bool dc] 65) = w8 at HX1 HB1 ⊢
      obtain ⟨x0, x1, x2, x3, x4, x5, x6, x7⟩ := HX1.out.all8
      (try dsimp only at x0 x1 x2 x3 x4 x5 x6 x7)
      go_wp2_with fail
      refine (HCN.out w8).mono ?_
      rintro e w9 ⟨rfl, b9⟩
      have HB9 := Lib.hid (below_two HB1.out b9)
      clear x0 x1 x2 x3 x4 x5 x6 x7 b9 HB1 HX1
      go_wp2_with fail
      go_roundw
      case rel => exact ⟨k + 1, by omega, by go_num, by rw [HN.out], HB9⟩
      case measure => simp [intOf]; omega
    · have hkn : k = n := by omega
      subst hkn
      go_wp2_with fail
      go_ret
      exact ⟨by rw [← HA.out]; rfl, HB.out⟩
set_option linter.unusedSimpArgs false in
set_option maxRecDepth 100000 in
set_option maxHeartbeats 4000000 in
theorem gapsOf_any (v : Mv) (k d : Int) (w : World) (hr : RdMe w v) :
    Calls Tryz.prog 36 #[mvVal v, .int .i64 k, .int .i64 d] w (Makes2 2 w (gapsOf v.me k d).1 (gapsOf v.me k d).2) := by
  have HX := Lib.hid (Bx.start (T := 28) hr)
  have HTM := Lib.hid (fun bo k0 kc W (hW : RdMe W v) (hd : Rd W bo k0 [d]) (hk0 : k0 ≤ 1048576) => timingOf_any v k bo k0 kc [d] W hW hd hk0)
  unfold mvVal at HTM ⊢
  by_cases hc : codeAn v.me k [d] = 0
  rotate_left
  · rw [show gapsOf v.me k d = ([], codeAn v.me k [d]) from by unfold gapsOf; rw [if_neg hc]]
    have HNZ := Lib.hid hc
    have hcb : (codeAn v.me k [d] != 0) = true := by simp [hc]
    generalize codeAn v.me k [d] = cc at HTM hcb HNZ ⊢
    clear hr hc
    go_enter Tryz.func36, Tryz.ntmps36
    go_upto_region 1 with fail
    generalize w.alloc (.cells #[.int .i64 v.id, .slice v.no v.n.length v.nc, .slice v.mo v.cs.length v.mc, .slice v.eo v.e.length v.ec] 28) = w1 at HX ⊢
    obtain ⟨z0, z1, z2, z3⟩ := HX.out.at_.all
    have bN := (Below.refl w1.heap.size w1).alloc (Nat.le_refl _) (.cells #[.int .i64 d] 2)
    have HX2 := Lib.hid (HX.out.call bN)
    have HD2 := Lib.hid (rd_one 2 d w1)
    clear bN
    go_wp2_with fail
    refine (HTM.out _ _ _ _ HX2.out.rd HD2.out (by omega)).mono ?_
    rintro e w3 ⟨b3, hcase⟩
    have HB3 := Lib.hid (HX2.out.call b3).below
    clear b3 z0 z1 z2 z3 HX HX2 HD2
    obtain ⟨-, rfl⟩ := hcase.resolve_right (fun h => HNZ.out h.1)
    go_wp2_with fail
    go_ret2
    exact ⟨_, rfl, Own.nil_, HB3.out⟩
  rw [show gapsOf v.me k d = (gapsL (cyc17 v.me k) (sent17 v.me k d), 0) from by unfold gapsOf; rw [if_pos hc]]
  obtain ⟨⟨j, rfl, hj, W⟩, hns⟩ := an_yes hc
  obtain ⟨nd, rfl, hn32, ho, hnode⟩ := hns d (by simp)
  have HCZ := Lib.hid hc
  have hni : (nd : Int) < 32 := by omega
  have hne := ho.ne
  have hle := ho.le
  have HO := Lib.hid ho
  have HND := Lib.hid hnode
  clear hr hc hj W hns hnode ho
  have HGN := Lib.hid (fun W b i (hi : i < (sent17 v.me (j : Int) (nd : Int)).length) (hW : RdTm W b (cyc17 v.me (j : Int)) (fun n => sent17 v.me (j : Int) (n : Int))) => (show Calls Tryz.prog 89 #[.pointer (some ⟨b, 0, none⟩), sdVal (sdOf (sent17 v.me (j : Int) (nd : Int)) i)] W fun e w' => e = .returned (.int .i64 (gapAfter (cyc17 v.me (j : Int)) (sent17 v.me (j : Int) (nd : Int)) (sdOf (sent17 v.me (j : Int) (nd : Int)) i))) ∧ Below W.heap.size W w' from gapAfter_any b nd (cyc17 v.me (j : Int)) (fun n => sent17 v.me (j : Int) (n : Int)) (sdOf (sent17 v.me (j : Int) (nd : Int)) i) W hW hn32 HO.out (HND.out i hi) (HO.out.lo i hi).1 (by have := HO.out.lo i hi; have := HO.out.c1; omega)))
  have HNX := Lib.hid (fun i (hi : i < (sent17 v.me (j : Int) (nd : Int)).length) => (show (gapsL (cyc17 v.me (j : Int)) (sent17 v.me (j : Int) (nd : Int))).take (i + 1) = (gapsL (cyc17 v.me (j : Int)) (sent17 v.me (j : Int) (nd : Int))).take i ++ [gapAfter (cyc17 v.me (j : Int)) (sent17 v.me (j : Int) (nd : Int)) (sdOf (sent17 v.me (j : Int) (nd : Int)) i)] from by
    rw [take_getD (by rw [gaps_len]; exact hi), HO.out.gaps_at hi, HO.out.gap hi]))
  have HAL := Lib.hid (show (gapsL (cyc17 v.me (j : Int)) (sent17 v.me (j : Int) (nd : Int))).take (sent17 v.me (j : Int) (nd : Int)).length = gapsL (cyc17 v.me (j : Int)) (sent17 v.me (j : Int) (nd : Int)) from List.take_of_length_le (by rw [gaps_len]; exact Nat.le_refl _))
  have HLN := Lib.hid (fun i (hi : i ≤ (sent17 v.me (j : Int) (nd : Int)).length) => (by rw [List.length_take]; omega : ((gapsL (cyc17 v.me (j : Int)) (sent17 v.me (j : Int) (nd : Int))).take i).length ≤ 120))
  have HRS := Lib.hid (fun W b (hW : RdTm W b (cyc17 v.me (j : Int)) (fun n => sent17 v.me (j : Int) (n : Int))) => (show ∃ ao cap, W.cell? ⟨b, 1 + nd, none⟩ = some (.slice ao (sent17 v.me (j : Int) (nd : Int)).length cap) ∧ RdSd W ao (sent17 v.me (j : Int) (nd : Int)).length (sent17 v.me (j : Int) (nd : Int)) ∧ (sent17 v.me (j : Int) (nd : Int)).length ≤ cap ∧ cap ≤ 9223372036854775807 from hW.at hn32))
  generalize (fun n : Nat => sent17 v.me (j : Int) (n : Int)) = ts at HTM HGN HRS
  generalize sent17 v.me (j : Int) (nd : Int) = S at HGN HNX HAL HLN HRS HO HND hne hle ⊢
  generalize gapsL (cyc17 v.me (j : Int)) S = G at HNX HAL HLN ⊢
  generalize cyc17 v.me (j : Int) = C at HTM HGN HNX HRS HO
  clear HND HO
  go_enter Tryz.func36, Tryz.ntmps36
  go_upto_region 1 with fail
  generalize w.alloc (.cells #[.int .i64 v.id, .slice v.no v.n.length v.nc, .slice v.mo v.cs.length v.mc, .slice v.eo v.e.length v.ec] 28) = w1 at HX ⊢
  obtain ⟨z0, z1, z2, z3⟩ := HX.out.at_.all
  have bN := (Below.refl w1.heap.size w1).alloc (Nat.le_refl _) (.cells #[.int .i64 (nd : Int)] 2)
  have HX2 := Lib.hid (HX.out.call bN)
  have HD2 := Lib.hid (rd_one 2 (nd : Int) w1)
  clear bN
  go_wp2_with fail
  refine (HTM.out _ _ _ _ HX2.out.rd HD2.out (by omega)).mono ?_
  rintro e w3 ⟨b3, hcase⟩
  have HB3 := Lib.hid (HX2.out.call b3).below
  clear b3 z0 z1 z2 z3 HX HX2 HD2
  rcases hcase with ⟨h9, -⟩ | ⟨-, b, rfl, ht⟩
  · exact absurd HCZ.out h9
  have HT := Lib.hid ht
  clear ht
  obtain ⟨vo, vc, hv, hrd, -, -⟩ := HRS.out w3 b HT.out
  have HRD := Lib.hid hrd
  go_wp2_with fail
  clear hv hrd
  go_loopw [10, 31] (fun o i wr => ∃ i0 : Nat, i0 ≤ S.length ∧ i = .int .i64 i0 ∧ Hid (Below w3.heap.size w3 wr) ∧ Hid (Own 2 wr w3.heap.size o (G.take i0))) (fun _ i _ => S.length - (intOf i).toNat)
  case atStart => exact ⟨0, Nat.zero_le _, rfl, Lib.hid (Below.refl _ _), Lib.hid (by rw [List.take_zero]; exact Own.nil_)⟩
  case round =>
    obtain ⟨i, hi, rfl, HB, HW⟩ := hrel
    by_cases hlt : i < S.length
    · obtain ⟨bb, off, e0, hg, hx⟩ := (HRD.out.below HB.out).at hlt
      subst e0
      have HN := Lib.hid (HNX.out i hlt)
      have HG := Lib.hid (fun W hW => HGN.out W b i hlt hW)
      have HL2 := Lib.hid (HLN.out i hi)
      generalize sdOf S i = y at hx HN HG
      obtain ⟨a, dn, dk, ds, dd, dc, rfl⟩ := sd_cases y
      generalize gapAfter C S ⟨a, ⟨dn, dk, ds, dd, dc⟩⟩ = z at HN HG
      unfold sdVal at HG
      obtain ⟨x0, x1, x2, x3, x4, x5⟩ := hx.all
      (try dsimp only at x0 x1 x2 x3 x4 x5)
      have bal := (Below.refl wr.heap.size wr).alloc (Nat.le_refl _) (.cells #[.int .i64 a, .int .i64 dn, .int .i64 dk, .int .i64 ds, .int .i64 dd, .bool dc] 141)
      have HX1 := Lib.hid (SdBk.new (T := 141) (x := ⟨a, ⟨dn, dk, ds, dd, dc⟩⟩) wr)
      have HB1 := Lib.hid (below_two HB.out bal)
      have HW1 := Lib.hid (HW.out.below bal)
      clear bal hx HB HW
      go_upto_region 8 with fail
      clear x0 x1 x2 x3 x4 x5
      generalize wr.alloc (.cells #[.int .i64 a, .int .i64 dn, .int .i64 dk, .int .i64 ds, .int .i64 dd, .bool dc] 141) = w8 at HX1 HB1 HW1 ⊢
      obtain ⟨x0, x1, x2, x3, x4, x5⟩ := HX1.out.all
      (try dsimp only at x0 x1 x2 x3 x4 x5)
      go_wp2_with fail
      refine (HG.out w8 (HT.out.below HB1.out)).mono ?_
      rintro e w9 ⟨rfl, b9⟩
      have HB9 := Lib.hid (below_two HB1.out b9)
      have HW9 := Lib.hid (HW1.out.below b9)
      have bl1 := (Below.refl w9.heap.size w9).alloc (Nat.le_refl _) (.cells #[.int .i64 z] 2)
      have HB6 := Lib.hid (below_two HB9.out bl1)
      have HW6 := Lib.hid (HW9.out.below bl1)
      have hnc : (w9.alloc (.cells #[.int .i64 z] 2)).cell? ⟨w9.heap.size, 0, none⟩ = some (.int .i64 z) := by simp
      clear x0 x1 x2 x3 x4 x5 b9 bl1 HB1 HX1 HW1 HB9 HW9
      go_wp2_with (at_builtin; refine append_g _ rfl (.tmp 35) (.tmp 39) rfl w3.heap.size Tryz.underlying53 info64 _ _ rfl HW6.out _ z _ rfl hnc (by have := HL2.out; omega) HB6.out.size ?_; intro v9 w10 o9 g9)
      have HB7 := Lib.hid (HB6.out.grown g9 HB6.out.size (fun k hk => (HW6.out.block k hk).1))
      have HW7 := Lib.hid o9
      clear o9 g9 HB6 HW6
      go_wp2_with fail
      go_roundw
      case rel => exact ⟨i + 1, by omega, by go_num, HB7, Lib.hid (by rw [HN.out]; exact HW7.out)⟩
      case measure => simp [intOf]; omega
    · have hkn : i = S.length := by omega
      subst hkn
      go_wp2_with fail
      go_ret2
      exact ⟨_, rfl, by rw [← HAL.out]; exact HW.out.more (HB3.out.size), below_two HB3.out HB.out⟩
end

section
open Go.RowKit
theorem worst_call {b nd : Nat} {C : Int} {ts : Nat → List Sd} {so : Option Addr} {cap : Nat} {W : World} (hW : RdTm W b C ts) (hn : nd < 32) (ho : SdOk C (ts nd)) (hnode : ∀ i, i < (ts nd).length → (sdOf (ts nd) i).d.node = (nd : Int)) (hr : RdSd W so (ts nd).length (ts nd)) (h1 : (ts nd).length ≤ cap) (h2 : cap ≤ 9223372036854775807) :
    Calls Tryz.prog 92 #[.slice so (ts nd).length cap, .func (.func 89) #[.pointer (some ⟨b, 0, none⟩)] #[]] W fun e w' => e = .returned (.int .i64 (topL (gapsL C (ts nd)))) ∧ Below W.heap.size W w' :=
  topGap_any so (ts nd).length cap (ts nd) (gapsL C (ts nd)) b W hr ho.ne gaps_len h1 h2 (fun i hi W' hb => by
    have e : (gapsL C (ts nd)).getD i 0 = gapAfter C (ts nd) (sdOf (ts nd) i) := (ho.gaps_at hi).trans (ho.gap hi).symm
    rw [e]
    exact gapAfter_any b nd C ts (sdOf (ts nd) i) W' (hW.below hb) hn ho (hnode i hi) (ho.lo i hi).1 (by have := ho.lo i hi; have := ho.c1; omega))
theorem least_call {b nd : Nat} {C : Int} {ts : Nat → List Sd} {so : Option Addr} {cap : Nat} {W : World} (hW : RdTm W b C ts) (hn : nd < 32) (ho : SdOk C (ts nd)) (hnode : ∀ i, i < (ts nd).length → (sdOf (ts nd) i).d.node = (nd : Int)) (hr : RdSd W so (ts nd).length (ts nd)) (h1 : (ts nd).length ≤ cap) (h2 : cap ≤ 9223372036854775807) :
    Calls Tryz.prog 94 #[.slice so (ts nd).length cap, .func (.func 89) #[.pointer (some ⟨b, 0, none⟩)] #[]] W fun e w' => e = .returned (.int .i64 (lowL (gapsL C (ts nd)))) ∧ Below W.heap.size W w' :=
  lowGap_any so (ts nd).length cap (ts nd) (gapsL C (ts nd)) b W hr ho.ne gaps_len h1 h2 (fun i hi W' hb => by
    have e : (gapsL C (ts nd)).getD i 0 = gapAfter C (ts nd) (sdOf (ts nd) i) := (ho.gaps_at hi).trans (ho.gap hi).symm
    rw [e]
    exact gapAfter_any b nd C ts (sdOf (ts nd) i) W' (hW.below hb) hn ho (hnode i hi) (ho.lo i hi).1 (by have := ho.lo i hi; have := ho.c1; omega))
theorem chain_call {b na nb p6 p7 p8 : Nat} {C : Int} {ts : Nat → List Sd} {so : Option Addr} {cap : Nat} {W : World} (hW : RdTm W b C ts) (hn : na < 32) (hm : nb < 32) (ho : SdOk C (ts na)) (hp : SdOk C (ts nb)) (hr : RdSd W so (ts na).length (ts na)) (h1 : (ts na).length ≤ cap) (h2 : cap ≤ 9223372036854775807)
    (c6 : W.cell? ⟨p6, 0, none⟩ = some (.pointer (some ⟨b, 0, none⟩))) (c7 : W.cell? ⟨p7, 0, none⟩ = some (.int .i64 (na : Int))) (c8 : W.cell? ⟨p8, 0, none⟩ = some (.int .i64 (nb : Int))) :
    Calls Tryz.prog 92 #[.slice so (ts na).length cap, .func (.func 106) #[] #[.pointer (some ⟨p6, 0, none⟩), .pointer (some ⟨p7, 0, none⟩), .pointer (some ⟨p8, 0, none⟩)]] W fun e w' => e = .returned (.int .i64 (topL (chainsL C (ts na) (ts nb)))) ∧ Below W.heap.size W w' :=
  topChain_any so (ts na).length cap (ts na) (chainsL C (ts na) (ts nb)) p6 p7 p8 W hr ho.ne (by simp [chainsL]) h1 h2 (fun i hi W' hb => by
    have e : (chainsL C (ts na) (ts nb)).getD i 0 = chainFrom C (ts na) (ts nb) ((sdOf (ts na) i).st + 1) := by
      simp [chainsL, List.getD, hi, sdOf_get hi]
    rw [e]
    exact chainC_any b na nb p6 p7 p8 C ts (sdOf (ts na) i) W' (hW.below hb) hn hm ho hp (ho.lo i hi).1 (by have := ho.lo i hi; have := ho.c1; omega)
      ((hb.cell (p := ⟨p6, 0, none⟩) (World.block_lt_of_cell? W _ c6)).trans c6) ((hb.cell (p := ⟨p7, 0, none⟩) (World.block_lt_of_cell? W _ c7)).trans c7) ((hb.cell (p := ⟨p8, 0, none⟩) (World.block_lt_of_cell? W _ c8)).trans c8))
set_option linter.unusedSimpArgs false in
set_option maxRecDepth 100000 in
set_option maxHeartbeats 4000000 in
theorem worstGap_any (v : Mv) (k d : Int) (w : World) (hr : RdMe w v) :
    Calls Tryz.prog 38 #[mvVal v, .int .i64 k, .int .i64 d] w fun e w' => e = .returned (.tuple #[.int .i64 (worstGap v.me k d).1, .int .i64 (worstGap v.me k d).2]) ∧ Below w.heap.size w w' := by
  have HX := Lib.hid (Bx.start (T := 28) hr)
  have HTM := Lib.hid (fun bo k0 kc W (hW : RdMe W v) (hd : Rd W bo k0 [d]) (hk0 : k0 ≤ 1048576) => timingOf_any v k bo k0 kc [d] W hW hd hk0)
  unfold mvVal at HTM ⊢
  by_cases hc : codeAn v.me k [d] = 0
  rotate_left
  · rw [show worstGap v.me k d = (0, codeAn v.me k [d]) from by unfold worstGap; rw [if_neg hc]]
    have HNZ := Lib.hid hc
    have hcb : (codeAn v.me k [d] != 0) = true := by simp [hc]
    generalize codeAn v.me k [d] = cc at HTM hcb HNZ ⊢
    clear hr hc
    go_enter Tryz.func38, Tryz.ntmps38
    go_upto_region 1 with fail
    generalize w.alloc (.cells #[.int .i64 v.id, .slice v.no v.n.length v.nc, .slice v.mo v.cs.length v.mc, .slice v.eo v.e.length v.ec] 28) = w1 at HX ⊢
    obtain ⟨z0, z1, z2, z3⟩ := HX.out.at_.all
    have bN := (Below.refl w1.heap.size w1).alloc (Nat.le_refl _) (.cells #[.int .i64 d] 2)
    have HX2 := Lib.hid (HX.out.call bN)
    have HD2 := Lib.hid (rd_one 2 d w1)
    clear bN
    go_wp2_with fail
    refine (HTM.out _ _ _ _ HX2.out.rd HD2.out (by omega)).mono ?_
    rintro e w3 ⟨b3, hcase⟩
    have HB3 := Lib.hid (HX2.out.call b3).below
    clear b3 z0 z1 z2 z3 HX HX2 HD2
    obtain ⟨-, rfl⟩ := hcase.resolve_right (fun h => HNZ.out h.1)
    go_wp2_with fail
    go_ret2
    exact ⟨rfl, HB3.out⟩
  rw [show worstGap v.me k d = (topL (gapsL (cyc17 v.me k) (sent17 v.me k d)), 0) from by unfold worstGap; rw [if_pos hc]]
  obtain ⟨⟨j, rfl, hj, W⟩, hns⟩ := an_yes hc
  obtain ⟨nd, rfl, hn32, ho, hnode⟩ := hns d (by simp)
  have HCZ := Lib.hid hc
  have hni : (nd : Int) < 32 := by omega
  have hne := ho.ne
  have hle := ho.le
  have HO := Lib.hid ho
  have HND := Lib.hid hnode
  clear hr hc hj W hns hnode ho
  have HTG := Lib.hid (fun W b so cap (hW : RdTm W b (cyc17 v.me (j : Int)) (fun n : Nat => sent17 v.me (j : Int) (n : Int))) (hr : RdSd W so (sent17 v.me (j : Int) (nd : Int)).length (sent17 v.me (j : Int) (nd : Int))) (h1 : (sent17 v.me (j : Int) (nd : Int)).length ≤ cap) (h2 : cap ≤ 9223372036854775807) => (show Calls Tryz.prog 92 #[.slice so (sent17 v.me (j : Int) (nd : Int)).length cap, .func (.func 89) #[.pointer (some ⟨b, 0, none⟩)] #[]] W fun e w' => e = .returned (.int .i64 (topL (gapsL (cyc17 v.me (j : Int)) (sent17 v.me (j : Int) (nd : Int))))) ∧ Below W.heap.size W w' from worst_call (ts := (fun n : Nat => sent17 v.me (j : Int) (n : Int))) hW hn32 HO.out HND.out hr h1 h2))
  have HRS := Lib.hid (fun W b (hW : RdTm W b (cyc17 v.me (j : Int)) (fun n : Nat => sent17 v.me (j : Int) (n : Int))) => (show ∃ ao cap, W.cell? ⟨b, 1 + nd, none⟩ = some (.slice ao (sent17 v.me (j : Int) (nd : Int)).length cap) ∧ RdSd W ao (sent17 v.me (j : Int) (nd : Int)).length (sent17 v.me (j : Int) (nd : Int)) ∧ (sent17 v.me (j : Int) (nd : Int)).length ≤ cap ∧ cap ≤ 9223372036854775807 from hW.at hn32))
  generalize (fun n : Nat => sent17 v.me (j : Int) (n : Int)) = ts at HTM HTG HRS
  generalize sent17 v.me (j : Int) (nd : Int) = S at HTG HRS HO HND hne hle ⊢
  generalize topL (gapsL (cyc17 v.me (j : Int)) S) = z at HTG ⊢
  generalize cyc17 v.me (j : Int) = C at HTM HTG HRS HO
  clear HND HO
  have hmf := hmfunc
  go_enter Tryz.func38, Tryz.ntmps38
  go_upto_region 1 with fail
  generalize w.alloc (.cells #[.int .i64 v.id, .slice v.no v.n.length v.nc, .slice v.mo v.cs.length v.mc, .slice v.eo v.e.length v.ec] 28) = w1 at HX ⊢
  obtain ⟨z0, z1, z2, z3⟩ := HX.out.at_.all
  have bN := (Below.refl w1.heap.size w1).alloc (Nat.le_refl _) (.cells #[.int .i64 (nd : Int)] 2)
  have HX2 := Lib.hid (HX.out.call bN)
  have HD2 := Lib.hid (rd_one 2 (nd : Int) w1)
  clear bN
  go_wp2_with fail
  refine (HTM.out _ _ _ _ HX2.out.rd HD2.out (by omega)).mono ?_
  rintro e w3 ⟨b3, hcase⟩
  have HB3 := Lib.hid (HX2.out.call b3).below
  clear b3 z0 z1 z2 z3 HX HX2 HD2
  rcases hcase with ⟨h9, -⟩ | ⟨-, b, rfl, ht⟩
  · exact absurd HCZ.out h9
  have HT := Lib.hid ht
  clear ht
  obtain ⟨vo, vc, hv, hrd, q1, q2⟩ := HRS.out w3 b HT.out
  have HCL := Lib.hid (HTG.out w3 b vo vc HT.out hrd q1 q2)
  clear hrd
  go_wp2_with fail
  refine HCL.out.mono ?_
  rintro e w4 ⟨rfl, b4⟩
  clear hv
  go_wp2_with fail
  go_ret2
  exact ⟨rfl, below_two HB3.out b4⟩
set_option linter.unusedSimpArgs false in
set_option maxRecDepth 100000 in
set_option maxHeartbeats 4000000 in
theorem jitterOf_any (v : Mv) (k d : Int) (w : World) (hr : RdMe w v) :
    Calls Tryz.prog 40 #[mvVal v, .int .i64 k, .int .i64 d] w fun e w' => e = .returned (.tuple #[.int .i64 (jitterOf v.me k d).1, .int .i64 (jitterOf v.me k d).2]) ∧ Below w.heap.size w w' := by
  have HX := Lib.hid (Bx.start (T := 28) hr)
  have HTM := Lib.hid (fun bo k0 kc W (hW : RdMe W v) (hd : Rd W bo k0 [d]) (hk0 : k0 ≤ 1048576) => timingOf_any v k bo k0 kc [d] W hW hd hk0)
  unfold mvVal at HTM ⊢
  by_cases hc : codeAn v.me k [d] = 0
  rotate_left
  · rw [show jitterOf v.me k d = (0, codeAn v.me k [d]) from by unfold jitterOf; rw [if_neg hc]]
    have HNZ := Lib.hid hc
    have hcb : (codeAn v.me k [d] != 0) = true := by simp [hc]
    generalize codeAn v.me k [d] = cc at HTM hcb HNZ ⊢
    clear hr hc
    go_enter Tryz.func40, Tryz.ntmps40
    go_upto_region 1 with fail
    generalize w.alloc (.cells #[.int .i64 v.id, .slice v.no v.n.length v.nc, .slice v.mo v.cs.length v.mc, .slice v.eo v.e.length v.ec] 28) = w1 at HX ⊢
    obtain ⟨z0, z1, z2, z3⟩ := HX.out.at_.all
    have bN := (Below.refl w1.heap.size w1).alloc (Nat.le_refl _) (.cells #[.int .i64 d] 2)
    have HX2 := Lib.hid (HX.out.call bN)
    have HD2 := Lib.hid (rd_one 2 d w1)
    clear bN
    go_wp2_with fail
    refine (HTM.out _ _ _ _ HX2.out.rd HD2.out (by omega)).mono ?_
    rintro e w3 ⟨b3, hcase⟩
    have HB3 := Lib.hid (HX2.out.call b3).below
    clear b3 z0 z1 z2 z3 HX HX2 HD2
    obtain ⟨-, rfl⟩ := hcase.resolve_right (fun h => HNZ.out h.1)
    go_wp2_with fail
    go_ret2
    exact ⟨rfl, HB3.out⟩
  rw [show jitterOf v.me k d = (topL (gapsL (cyc17 v.me k) (sent17 v.me k d)) - lowL (gapsL (cyc17 v.me k) (sent17 v.me k d)), 0) from by unfold jitterOf; rw [if_pos hc]]
  obtain ⟨⟨j, rfl, hj, W⟩, hns⟩ := an_yes hc
  obtain ⟨nd, rfl, hn32, ho, hnode⟩ := hns d (by simp)
  have HCZ := Lib.hid hc
  have hni : (nd : Int) < 32 := by omega
  have hne := ho.ne
  have hle := ho.le
  have HO := Lib.hid ho
  have HND := Lib.hid hnode
  clear hr hc hj W hns hnode ho
  have HTG := Lib.hid (fun W b so cap (hW : RdTm W b (cyc17 v.me (j : Int)) (fun n : Nat => sent17 v.me (j : Int) (n : Int))) (hr : RdSd W so (sent17 v.me (j : Int) (nd : Int)).length (sent17 v.me (j : Int) (nd : Int))) (h1 : (sent17 v.me (j : Int) (nd : Int)).length ≤ cap) (h2 : cap ≤ 9223372036854775807) => (show Calls Tryz.prog 92 #[.slice so (sent17 v.me (j : Int) (nd : Int)).length cap, .func (.func 89) #[.pointer (some ⟨b, 0, none⟩)] #[]] W fun e w' => e = .returned (.int .i64 (topL (gapsL (cyc17 v.me (j : Int)) (sent17 v.me (j : Int) (nd : Int))))) ∧ Below W.heap.size W w' from worst_call (ts := (fun n : Nat => sent17 v.me (j : Int) (n : Int))) hW hn32 HO.out HND.out hr h1 h2))
  have HTL := Lib.hid (fun W b so cap (hW : RdTm W b (cyc17 v.me (j : Int)) (fun n : Nat => sent17 v.me (j : Int) (n : Int))) (hr : RdSd W so (sent17 v.me (j : Int) (nd : Int)).length (sent17 v.me (j : Int) (nd : Int))) (h1 : (sent17 v.me (j : Int) (nd : Int)).length ≤ cap) (h2 : cap ≤ 9223372036854775807) => (show Calls Tryz.prog 94 #[.slice so (sent17 v.me (j : Int) (nd : Int)).length cap, .func (.func 89) #[.pointer (some ⟨b, 0, none⟩)] #[]] W fun e w' => e = .returned (.int .i64 (lowL (gapsL (cyc17 v.me (j : Int)) (sent17 v.me (j : Int) (nd : Int))))) ∧ Below W.heap.size W w' from least_call (ts := (fun n : Nat => sent17 v.me (j : Int) (n : Int))) hW hn32 HO.out HND.out hr h1 h2))
  have HRS := Lib.hid (fun W b (hW : RdTm W b (cyc17 v.me (j : Int)) (fun n : Nat => sent17 v.me (j : Int) (n : Int))) => (show ∃ ao cap, W.cell? ⟨b, 1 + nd, none⟩ = some (.slice ao (sent17 v.me (j : Int) (nd : Int)).length cap) ∧ RdSd W ao (sent17 v.me (j : Int) (nd : Int)).length (sent17 v.me (j : Int) (nd : Int)) ∧ (sent17 v.me (j : Int) (nd : Int)).length ≤ cap ∧ cap ≤ 9223372036854775807 from hW.at hn32))
  have hz1 := HO.out.gaps_bound HO.out.top_in.1
  have hz2 := HO.out.gaps_bound HO.out.low_in.1
  have hcc := HO.out.c1
  generalize (fun n : Nat => sent17 v.me (j : Int) (n : Int)) = ts at HTM HTG HTL HRS
  generalize sent17 v.me (j : Int) (nd : Int) = S at HTG HTL HRS HO HND hne hle hz1 hz2 ⊢
  generalize topL (gapsL (cyc17 v.me (j : Int)) S) = z at HTG hz1 ⊢
  generalize lowL (gapsL (cyc17 v.me (j : Int)) S) = z2 at HTL hz2 ⊢
  have hww : IntKind.i64.wrap (z - z2) = z - z2 := by rw [IntKind.wrap_i64]; omega
  generalize cyc17 v.me (j : Int) = C at HTM HTG HTL HRS HO hz1 hz2 hcc
  clear HND HO hz1 hz2 hcc
  have hmf := hmfunc
  go_enter Tryz.func40, Tryz.ntmps40
  go_upto_region 1 with fail
  generalize w.alloc (.cells #[.int .i64 v.id, .slice v.no v.n.length v.nc, .slice v.mo v.cs.length v.mc, .slice v.eo v.e.length v.ec] 28) = w1 at HX ⊢
  obtain ⟨z0, z1, z2, z3⟩ := HX.out.at_.all
  have bN := (Below.refl w1.heap.size w1).alloc (Nat.le_refl _) (.cells #[.int .i64 (nd : Int)] 2)
  have HX2 := Lib.hid (HX.out.call bN)
  have HD2 := Lib.hid (rd_one 2 (nd : Int) w1)
  clear bN
  go_wp2_with fail
  refine (HTM.out _ _ _ _ HX2.out.rd HD2.out (by omega)).mono ?_
  rintro e w3 ⟨b3, hcase⟩
  have HB3 := Lib.hid (HX2.out.call b3).below
  clear b3 z0 z1 z2 z3 HX HX2 HD2
  rcases hcase with ⟨h9, -⟩ | ⟨-, b, rfl, ht⟩
  · exact absurd HCZ.out h9
  have HT := Lib.hid ht
  clear ht
  have HT4 := Lib.hid (HT.out.below (Below.drew (Below.refl w3.heap.size w3)))
  have HB4 := Lib.hid (Below.drew HB3.out)
  clear HT HB3
  go_upto_region 4 with fail
  obtain ⟨vo, vc, hq, hrd, q1, q2⟩ := HRS.out w3.drew b HT4.out
  have HRD := Lib.hid hrd
  clear hrd
  refine wp_region_held_drew (S := fun w' => w'.cell? ⟨b, 1 + nd, none⟩ = some (.slice vo S.length vc)) (by kernel_rfl) (hq) (fun hHeld => ?_)
  generalize w3.drew = y4 at HT4 HB4 HRD hq hHeld ⊢
  refine wpAnyH_take (i := 0) (v := ?_) rfl (by kernel_rfl) (by kernel_rfl) (by kernel_rfl) (fun _ _ _ h => h) (Or.inl ⟨by rfl, ?_⟩) (by assumption) ?_
  rotate_left
  · (intro w hSw; (try dsimp only at hSw); go_simp; (try with_reducible rfl))
  try simp only [pa, pb, pc, Act.put, pe, pf, pg]
  refine wpAnyH_take (i := 1) (v := ?_) rfl (by kernel_rfl) (by kernel_rfl) (by kernel_rfl) (fun _ _ _ h => h) (Or.inl ⟨by rfl, ?_⟩) (by assumption) ?_
  rotate_left
  · (intro w hSw; (try dsimp only at hSw); go_simp; (try with_reducible rfl))
  try simp only [pa, pb, pc, Act.put, pe, pf, pg]
  refine wpAnyH_take (i := 2) (v := ?_) rfl (by kernel_rfl) (by kernel_rfl) (by kernel_rfl) (fun _ _ _ h => h) (Or.inl ⟨by rfl, ?_⟩) (by assumption) ?_
  rotate_left
  · (intro w hSw; (try dsimp only at hSw); go_simp; (try with_reducible rfl))
  try simp only [pa, pb, pc, Act.put, pe, pf, pg]
  refine wpAnyH_take (i := 3) (v := ?_) rfl (by kernel_rfl) (by kernel_rfl) (by kernel_rfl) (fun _ _ _ h => h) (Or.inl ⟨by rfl, ?_⟩) (by assumption) ?_
  rotate_left
  · (intro w hSw; (try dsimp only at hSw); go_simp; (try with_reducible rfl))
  try simp only [pa, pb, pc, Act.put, pe, pf, pg]
  refine wpAnyH_take (i := 4) (v := ?_) rfl (by kernel_rfl) (by kernel_rfl) (by kernel_rfl) (fun _ _ _ h => h) (Or.inl ⟨by rfl, ?_⟩) (by assumption) ?_
  rotate_left
  · (intro w hSw; (try dsimp only at hSw); go_simp; (try with_reducible rfl))
  try simp only [pa, pb, pc, Act.put, pe, pf, pg]
  refine wpAnyH_take (i := 5) (v := ?_) rfl (by kernel_rfl) (by kernel_rfl) (by kernel_rfl) (fun _ _ _ h => h) (Or.inl ⟨by rfl, ?_⟩) (by assumption) ?_
  rotate_left
  · (intro w hSw; (try dsimp only at hSw); go_simp; (try with_reducible rfl))
  try simp only [pa, pb, pc, Act.put, pe, pf, pg]
  refine wpAnyH_take (i := 6) (v := ?_) rfl (by kernel_rfl) (by kernel_rfl) (by kernel_rfl) (fun _ _ _ h => h) (Or.inl ⟨by rfl, ?_⟩) (by assumption) ?_
  rotate_left
  · (intro w hSw; (try dsimp only at hSw); go_simp; (try with_reducible rfl))
  try simp only [pa, pb, pc, Act.put, pe, pf, pg]
  refine wpAnyH_take (i := 9) (v := ?_) rfl (by kernel_rfl) (by kernel_rfl) (by kernel_rfl) (fun _ _ _ h => h) (Or.inl ⟨by rfl, ?_⟩) (by assumption) ?_
  rotate_left
  · (intro w hSw; (try dsimp only at hSw); go_simp; (try with_reducible rfl))
  try simp only [pa, pb, pc, Act.put, pe, pf, pg]
  refine wpAnyH_take (i := 10) (v := ?_) rfl (by kernel_rfl) (by kernel_rfl) (by kernel_rfl) (fun _ _ _ h => h) (Or.inl ⟨by rfl, ?_⟩) (by assumption) ?_
  rotate_left
  · (intro w hSw; (try dsimp only at hSw); go_simp; (try with_reducible rfl))
  try simp only [pa, pb, pc, Act.put, pe, pf, pg]
  refine wpAnyH_take (i := 11) (v := ?_) rfl (by kernel_rfl) (by kernel_rfl) (by kernel_rfl) (fun _ _ _ h => h) (Or.inl ⟨by rfl, ?_⟩) (by assumption) ?_
  rotate_left
  · (intro w hSw; (try dsimp only at hSw); go_simp; (try with_reducible rfl))
  try simp only [pa, pb, pc, Act.put, pe, pf, pg]
  refine wpAnyH_take (i := 12) (v := ?_) rfl (by kernel_rfl) (by kernel_rfl) (by kernel_rfl) (fun _ _ _ h => h) (Or.inl ⟨by rfl, ?_⟩) (by assumption) ?_
  rotate_left
  · (intro w hSw; (try dsimp only at hSw); go_simp; (try with_reducible rfl))
  try simp only [pa, pb, pc, Act.put, pe, pf, pg]
  refine wpAnyH_take (i := 13) (v := ?_) rfl (by kernel_rfl) (by kernel_rfl) (by kernel_rfl) (fun _ _ _ h => h) (Or.inl ⟨by rfl, ?_⟩) (by assumption) ?_
  rotate_left
  · (intro w hSw; (try dsimp only at hSw); go_simp; (try with_reducible rfl))
  try simp only [pa, pb, pc, Act.put, pe, pf, pg]
  refine wpAnyH_take (i := 14) (v := ?_) rfl (by kernel_rfl) (by kernel_rfl) (by kernel_rfl) (fun _ _ _ h => h) (Or.inl ⟨by rfl, ?_⟩) (by assumption) ?_
  rotate_left
  · (intro w hSw; (try dsimp only at hSw); go_simp; (try with_reducible rfl))
  try simp only [pa, pb, pc, Act.put, pe, pf, pg]
  refine wpAnyH_take (i := 15) (v := ?_) rfl (by kernel_rfl) (by kernel_rfl) (by kernel_rfl) (fun _ _ _ h => h) (Or.inl ⟨by rfl, ?_⟩) (by assumption) ?_
  rotate_left
  · (intro w hSw; (try dsimp only at hSw); go_simp; (try with_reducible rfl))
  try simp only [pa, pb, pc, Act.put, pe, pf, pg]
  refine wpAnyH_take (i := 7) (v := ?_) rfl (by kernel_rfl) (by kernel_rfl) (by kernel_rfl) (fun _ _ _ h => h) (Or.inl ⟨by rfl, ?_⟩) (by assumption) ?_
  rotate_left
  · (intro w hSw; (try dsimp only at hSw); go_simp; (try with_reducible rfl))
  try simp only [pa, pb, pc, Act.put, pe, pf, pg]
  refine wpAnyH_take (i := 16) (v := ?_) rfl (by kernel_rfl) (by kernel_rfl) (by kernel_rfl) (fun _ _ _ h => h) (Or.inl ⟨by rfl, ?_⟩) (by assumption) ?_
  rotate_left
  · (intro w hSw; (try dsimp only at hSw); go_simp; (try with_reducible rfl))
  try simp only [pa, pb, pc, Act.put, pe, pf, pg]
  refine wpAnyH_ready (rs := [8]) (by kernel_rfl) (by simp) (AllReadyH.cons rfl (fun K hK => ?_) AllReadyH.nil)
  go_simp
  refine (HTG.out y4 b vo vc HT4.out HRD.out q1 q2).mono ?_
  rintro e y5 ⟨rfl, b5⟩
  have hq5 := (HRD.out.below b5)
  have HT5 := Lib.hid (HT4.out.below b5)
  have HB5 := Lib.hid (below_two HB4.out b5)
  have HRD5 := Lib.hid (HRD.out.below b5)
  have hqn : y5.cell? ⟨b, 1 + nd, none⟩ = some (.slice vo S.length vc) := (b5.cell (p := ⟨b, 1 + nd, none⟩) (World.block_lt_of_cell? y4 _ hq)).trans hq
  clear b5 hq5 hq HT4 HB4 HRD
  go_wp2_with fail
  refine hK.out _ _ ?_ (fun hHeld => ?_)
  · exact hqn
  clear hK K
  try simp only [pa, pb, pc, Act.put, pe, pf, pg]
  refine wpAnyH_ready (rs := [17]) (by kernel_rfl) (by simp) (AllReadyH.cons rfl (fun K hK => ?_) AllReadyH.nil)
  go_simp
  refine (HTL.out y5 b vo vc HT5.out HRD5.out q1 q2).mono ?_
  rintro e y6 ⟨rfl, b6⟩
  have HB6 := Lib.hid (below_two HB5.out b6)
  have hqm : y6.cell? ⟨b, 1 + nd, none⟩ = some (.slice vo S.length vc) := (b6.cell (p := ⟨b, 1 + nd, none⟩) (World.block_lt_of_cell? y5 _ hqn)).trans hqn
  clear b6 hqn HT5 HB5 HRD5
  go_wp2_with fail
  refine hK.out _ _ ?_ (fun hHeld => ?_)
  · exact hqm
  clear hK K
  try simp only [pa, pb, pc, Act.put, pe, pf, pg]
  refine wpAnyH_take (i := 18) (v := ?_) rfl (by kernel_rfl) (by kernel_rfl) (by kernel_rfl) (fun _ _ _ h => h) (Or.inl ⟨by rfl, ?_⟩) (by assumption) ?_
  rotate_left
  · (intro w hSw; (try dsimp only at hSw); go_simp; (try with_reducible rfl))
  try simp only [pa, pb, pc, Act.put, pe, pf, pg]
  refine wpAnyH_take (i := 19) (v := ?_) rfl (by kernel_rfl) (by kernel_rfl) (by kernel_rfl) (fun _ _ _ h => h) (Or.inl ⟨by rfl, ?_⟩) (by assumption) ?_
  rotate_left
  · (intro w hSw; (try dsimp only at hSw); go_simp; (try with_reducible rfl))
  try simp only [pa, pb, pc, Act.put, pe, pf, pg]
  refine wpAnyH_take (i := 20) (v := ?_) rfl (by kernel_rfl) (by kernel_rfl) (by kernel_rfl) (fun _ _ _ h => h) (Or.inl ⟨by rfl, ?_⟩) (by assumption) ?_
  rotate_left
  · (intro w hSw; (try dsimp only at hSw); go_simp; (try with_reducible rfl))
  try simp only [pa, pb, pc, Act.put, pe, pf, pg]
  refine wpAnyH_done (by kernel_rfl) ?_ _
  go_wp2_with fail
  go_ret2
  exact ⟨rfl, HB6.out⟩
theorem size_in17 {t : List Sd} (h : ∀ x ∈ t, 0 ≤ x.d.size ∧ x.d.size ≤ 64) (hl : t.length ≤ 120) (i : Nat) : 0 ≤ sizeSum (t.take i) ∧ sizeSum (t.take i) ≤ 10000 := by
  have key : ∀ u : List Sd, (∀ x ∈ u, 0 ≤ x.d.size ∧ x.d.size ≤ 64) → 0 ≤ sizeSum u ∧ sizeSum u ≤ 64 * u.length := by
    intro u
    induction u with
    | nil => intro _; simp [sizeSum]
    | cons x u ih =>
      intro hu
      have h1 := hu x (by simp)
      have h2 := ih fun y hy => hu y (by simp [hy])
      simp only [sizeSum, List.length_cons]
      omega
  have := key (t.take i) fun x hx => h x (List.mem_of_mem_take hx)
  have := List.length_take_le i t
  rw [List.length_take] at *
  omega
theorem size_ok17 {a n : Int} (h : sizeOk a n = true) : 0 ≤ n ∧ n ≤ 64 := by
  unfold sizeOk at h
  split at h
  · simp only [inRange, Bool.and_eq_true, decide_eq_true_eq] at h; omega
  · split at h
    · simp only [inRange, Bool.and_eq_true, decide_eq_true_eq] at h; omega
    · simp only [decide_eq_true_eq] at h; omega
theorem sent_size {m : Me} (W : Well m) {j : Nat} {n : Int} : ∀ x ∈ sent17 m (j : Int) n, 0 ≤ x.d.size ∧ x.d.size ≤ 64 := by
  intro x hx
  obtain ⟨i, hi, rfl⟩ := mem_sdOf hx
  obtain ⟨p, hp, -, e⟩ := sentTo_at _ _ _ i hi
  have e : sdOf (sent17 m (j : Int) n) i = ⟨dursum ((cycK m (j : Int)).take p), (slOf (cycK m (j : Int)) p).desc⟩ := e
  rw [e]
  have hd := (sl_bounds W.r4 (inMode_sub (slOf_mem hp))).2.2.2
  have hs := (desc_parts hd).2.2.1
  exact size_ok17 hs
set_option linter.unusedSimpArgs false in
set_option maxRecDepth 100000 in
set_option maxHeartbeats 4000000 in
theorem payloadOf_any (v : Mv) (k d : Int) (w : World) (hr : RdMe w v) :
    Calls Tryz.prog 50 #[mvVal v, .int .i64 k, .int .i64 d] w fun e w' => e = .returned (.tuple #[.int .i64 (payloadOf v.me k d).1, .int .i64 (payloadOf v.me k d).2]) ∧ Below w.heap.size w w' := by
  have HX := Lib.hid (Bx.start (T := 28) hr)
  have HTM := Lib.hid (fun bo k0 kc W (hW : RdMe W v) (hd : Rd W bo k0 [d]) (hk0 : k0 ≤ 1048576) => timingOf_any v k bo k0 kc [d] W hW hd hk0)
  unfold mvVal at HTM ⊢
  by_cases hc : codeAn v.me k [d] = 0
  rotate_left
  · rw [show payloadOf v.me k d = (0, codeAn v.me k [d]) from by unfold payloadOf; rw [if_neg hc]]
    have HNZ := Lib.hid hc
    have hcb : (codeAn v.me k [d] != 0) = true := by simp [hc]
    generalize codeAn v.me k [d] = cc at HTM hcb HNZ ⊢
    clear hr hc
    go_enter Tryz.func50, Tryz.ntmps50
    go_upto_region 1 with fail
    generalize w.alloc (.cells #[.int .i64 v.id, .slice v.no v.n.length v.nc, .slice v.mo v.cs.length v.mc, .slice v.eo v.e.length v.ec] 28) = w1 at HX ⊢
    obtain ⟨z0, z1, z2, z3⟩ := HX.out.at_.all
    have bN := (Below.refl w1.heap.size w1).alloc (Nat.le_refl _) (.cells #[.int .i64 d] 2)
    have HX2 := Lib.hid (HX.out.call bN)
    have HD2 := Lib.hid (rd_one 2 d w1)
    clear bN
    go_wp2_with fail
    refine (HTM.out _ _ _ _ HX2.out.rd HD2.out (by omega)).mono ?_
    rintro e w3 ⟨b3, hcase⟩
    have HB3 := Lib.hid (HX2.out.call b3).below
    clear b3 z0 z1 z2 z3 HX HX2 HD2
    obtain ⟨-, rfl⟩ := hcase.resolve_right (fun h => HNZ.out h.1)
    go_wp2_with fail
    go_ret2
    exact ⟨rfl, HB3.out⟩
  rw [show payloadOf v.me k d = (sizeSum (sent17 v.me k d), 0) from by unfold payloadOf; rw [if_pos hc]]
  obtain ⟨⟨j, rfl, hj, W⟩, hns⟩ := an_yes hc
  obtain ⟨nd, rfl, hn32, ho, hnode⟩ := hns d (by simp)
  have HCZ := Lib.hid hc
  have hni : (nd : Int) < 32 := by omega
  have hne := ho.ne
  have hle := ho.le
  have HO := Lib.hid ho
  have HND := Lib.hid hnode
  have SZ := Lib.hid (sent_size W (j := j) (n := (nd : Int)))
  clear hr hc hj W hns hnode ho
  have HRS := Lib.hid (fun W b (hW : RdTm W b (cyc17 v.me (j : Int)) (fun n : Nat => sent17 v.me (j : Int) (n : Int))) => (show ∃ ao cap, W.cell? ⟨b, 1 + nd, none⟩ = some (.slice ao (sent17 v.me (j : Int) (nd : Int)).length cap) ∧ RdSd W ao (sent17 v.me (j : Int) (nd : Int)).length (sent17 v.me (j : Int) (nd : Int)) ∧ (sent17 v.me (j : Int) (nd : Int)).length ≤ cap ∧ cap ≤ 9223372036854775807 from hW.at hn32))
  have HNX := Lib.hid (fun i (hi : i < (sent17 v.me (j : Int) (nd : Int)).length) => sizeSum_next (t := sent17 v.me (j : Int) (nd : Int)) (k := i) hi)
  have HSI := Lib.hid (fun i (_ : i ≤ (sent17 v.me (j : Int) (nd : Int)).length) => size_in17 SZ.out hle i)
  have HAL := Lib.hid (show (sent17 v.me (j : Int) (nd : Int)).take (sent17 v.me (j : Int) (nd : Int)).length = sent17 v.me (j : Int) (nd : Int) from List.take_length)
  generalize (fun n : Nat => sent17 v.me (j : Int) (n : Int)) = ts at HTM HRS
  generalize sent17 v.me (j : Int) (nd : Int) = S at HNX HSI HAL HRS HO HND hne hle ⊢
  generalize cyc17 v.me (j : Int) = C at HTM HRS HO
  clear HND HO SZ
  go_enter Tryz.func50, Tryz.ntmps50
  go_upto_region 1 with fail
  generalize w.alloc (.cells #[.int .i64 v.id, .slice v.no v.n.length v.nc, .slice v.mo v.cs.length v.mc, .slice v.eo v.e.length v.ec] 28) = w1 at HX ⊢
  obtain ⟨z0, z1, z2, z3⟩ := HX.out.at_.all
  have bN := (Below.refl w1.heap.size w1).alloc (Nat.le_refl _) (.cells #[.int .i64 (nd : Int)] 2)
  have HX2 := Lib.hid (HX.out.call bN)
  have HD2 := Lib.hid (rd_one 2 (nd : Int) w1)
  clear bN
  go_wp2_with fail
  refine (HTM.out _ _ _ _ HX2.out.rd HD2.out (by omega)).mono ?_
  rintro e w3 ⟨b3, hcase⟩
  have HB3 := Lib.hid (HX2.out.call b3).below
  clear b3 z0 z1 z2 z3 HX HX2 HD2
  rcases hcase with ⟨h9, -⟩ | ⟨-, b, rfl, ht⟩
  · exact absurd HCZ.out h9
  have HT := Lib.hid ht
  clear ht
  obtain ⟨vo, vc, hv, hrd, -, -⟩ := HRS.out w3 b HT.out
  have HRD := Lib.hid hrd
  go_wp2_with fail
  clear hv hrd
  go_loopw [10, 31] (fun o i wr => ∃ i0 : Nat, i0 ≤ S.length ∧ i = .int .i64 i0 ∧ o = .int .i64 (sizeSum (S.take i0)) ∧ Hid (Below w3.heap.size w3 wr)) (fun _ i _ => S.length - (intOf i).toNat)
  case atStart => exact ⟨0, Nat.zero_le _, rfl, rfl, Lib.hid (Below.refl _ _)⟩
  case round =>
    obtain ⟨i, hi, rfl, rfl, HB⟩ := hrel
    by_cases hlt : i < S.length
    · obtain ⟨bb, off, e0, hg, hx⟩ := (HRD.out.below HB.out).at hlt
      subst e0
      have HN := Lib.hid (HNX.out i hlt)
      have h1 := HSI.out i hi
      have h2 := HSI.out (i + 1) hlt
      rw [HN.out] at h2
      generalize sdOf S i = y at hx HN h2
      obtain ⟨a, dn, dk, ds, dd, dc, rfl⟩ := sd_cases y
      replace HN : Hid (sizeSum (S.take (i + 1)) = sizeSum (S.take i) + ds) := HN
      replace h2 : 0 ≤ sizeSum (S.take i) + ds ∧ sizeSum (S.take i) + ds ≤ 10000 := h2
      generalize sizeSum (S.take i) = z at HN h1 h2 ⊢
      have hww : IntKind.i64.wrap (z + ds) = z + ds := by rw [IntKind.wrap_i64]; omega
      obtain ⟨x0, x1, x2, x3, x4, x5⟩ := hx.all
      (try dsimp only at x0 x1 x2 x3 x4 x5)
      have bal := (Below.refl wr.heap.size wr).alloc (Nat.le_refl _) (.cells #[.int .i64 a, .int .i64 dn, .int .i64 dk, .int .i64 ds, .int .i64 dd, .bool dc] 141)
      have HX1 := Lib.hid (SdBk.new (T := 141) (x := ⟨a, ⟨dn, dk, ds, dd, dc⟩⟩) wr)
      have HB1 := Lib.hid (below_two HB.out bal)
      clear bal hx HB
      go_upto_region 8 with fail
      clear x0 x1 x2 x3 x4 x5
      generalize wr.alloc (.cells #[.int .i64 a, .int .i64 dn, .int .i64 dk, .int .i64 ds, .int .i64 dd, .bool dc] 141) = w8 at HX1 HB1 ⊢
      obtain ⟨x0, x1, x2, x3, x4, x5⟩ := HX1.out.all
      (try dsimp only at x0 x1 x2 x3 x4 x5)
      go_wp2_with fail
      clear x0 x1 x2 x3 x4 x5
      go_roundw
      case rel => exact ⟨i + 1, by omega, by go_num, by rw [HN.out], HB1⟩
      case measure => simp [intOf]; omega
    · have hkn : i = S.length := by omega
      subst hkn
      go_wp2_with fail
      go_ret2
      exact ⟨by rw [show sizeSum S = sizeSum (S.take S.length) from by rw [HAL.out]]; rfl, below_two HB3.out HB.out⟩
end

section
open Go.RowKit
set_option linter.unusedSimpArgs false in
set_option maxRecDepth 100000 in
set_option maxHeartbeats 4000000 in
theorem chainTime_any (v : Mv) (k a b : Int) (w : World) (hr : RdMe w v) :
    Calls Tryz.prog 55 #[mvVal v, .int .i64 k, .int .i64 a, .int .i64 b] w fun e w' => e = .returned (.tuple #[.int .i64 (chainTime v.me k a b).1, .int .i64 (chainTime v.me k a b).2]) ∧ Below w.heap.size w w' := by
  have HX := Lib.hid (Bx.start (T := 28) hr)
  have HTM := Lib.hid (fun bo k0 kc W (hW : RdMe W v) (hd : Rd W bo k0 [a, b]) (hk0 : k0 ≤ 1048576) => timingOf_any v k bo k0 kc [a, b] W hW hd hk0)
  unfold mvVal at HTM ⊢
  by_cases hc : codeAn v.me k [a, b] = 0
  rotate_left
  · rw [show chainTime v.me k a b = (0, codeAn v.me k [a, b]) from by unfold chainTime; rw [if_neg hc]]
    have HNZ := Lib.hid hc
    have hcb : (codeAn v.me k [a, b] != 0) = true := by simp [hc]
    generalize codeAn v.me k [a, b] = cc at HTM hcb HNZ ⊢
    clear hr hc
    go_enter Tryz.func55, Tryz.ntmps55
    go_upto_region 1 with fail
    have hs0 : (w.alloc (.cells #[.int .i64 v.id, .slice v.no v.n.length v.nc, .slice v.mo v.cs.length v.mc, .slice v.eo v.e.length v.ec] 28)).heap.size = w.heap.size + 1 := World.size_alloc ..
    generalize w.alloc (.cells #[.int .i64 v.id, .slice v.no v.n.length v.nc, .slice v.mo v.cs.length v.mc, .slice v.eo v.e.length v.ec] 28) = w0 at HX hs0 ⊢
    have bA := (Below.refl w0.heap.size w0).alloc (Nat.le_refl _) (.cells #[.int .i64 a] 2)
    have HX1 := Lib.hid (HX.out.call bA)
    have kA : (w0.alloc (.cells #[.int .i64 a] 2)).cell? ⟨w0.heap.size, 0, none⟩ = some (.int .i64 a) := by simp
    have hsa : (w0.alloc (.cells #[.int .i64 a] 2)).heap.size = w0.heap.size + 1 := World.size_alloc ..
    clear bA
    generalize w0.alloc (.cells #[.int .i64 a] 2) = wa at HX1 kA hsa ⊢
    have bB := (Below.refl wa.heap.size wa).alloc (Nat.le_refl _) (.cells #[.int .i64 b] 2)
    have HX2 := Lib.hid (HX1.out.call bB)
    have kA2 := (bB.cell (p := ⟨w0.heap.size, 0, none⟩) (World.block_lt_of_cell? wa _ kA)).trans kA
    have kB : (wa.alloc (.cells #[.int .i64 b] 2)).cell? ⟨wa.heap.size, 0, none⟩ = some (.int .i64 b) := by simp
    clear bB kA
    generalize wa.alloc (.cells #[.int .i64 b] 2) = w1 at HX2 kA2 kB ⊢
    rw [hsa, hs0] at kB
    rw [hs0] at kA2
    obtain ⟨p8, hp8⟩ : ∃ p8, p8 = w.heap.size + 1 + 1 := ⟨_, rfl⟩
    rw [← hp8] at kB ⊢
    obtain ⟨p7, hp7⟩ : ∃ p7, p7 = w.heap.size + 1 := ⟨_, rfl⟩
    rw [← hp7] at kA2 ⊢
    clear hs0 hsa
    clear hp7 hp8 HX HX1
    obtain ⟨z0, z1, z2, z3⟩ := HX2.out.at_.all
    have bN := (Below.refl w1.heap.size w1).alloc (Nat.le_refl _) (.cells #[.int .i64 a, .int .i64 b] 2)
    have HX3 := Lib.hid (HX2.out.call bN)
    have HD2 := Lib.hid (rd_two 2 a b w1)
    have HK := Lib.hid (show ∀ W, Below w1.heap.size w1 W → W.cell? ⟨p7, 0, none⟩ = some (.int .i64 a) ∧ W.cell? ⟨p8, 0, none⟩ = some (.int .i64 b) from fun W hW => ⟨(hW.cell (p := ⟨p7, 0, none⟩) (World.block_lt_of_cell? w1 _ kA2)).trans kA2, (hW.cell (p := ⟨p8, 0, none⟩) (World.block_lt_of_cell? w1 _ kB)).trans kB⟩)
    have HBN := Lib.hid bN
    clear bN
    go_wp2_with fail
    refine (HTM.out _ _ _ _ HX3.out.rd HD2.out (by omega)).mono ?_
    rintro e w3 ⟨b3, hcase⟩
    have HB3 := Lib.hid (HX3.out.call b3).below
    have HK3 := Lib.hid (HK.out _ (below_two HBN.out b3))
    have HLB := Lib.hid (HBN.out.size)
    clear b3 z0 z1 z2 z3 HX2 HX3 HD2 HK HBN kA2 kB
    obtain ⟨-, rfl⟩ := hcase.resolve_right (fun h => HNZ.out h.1)
    have HB4 := Lib.hid (below_two HB3.out ((Below.refl w3.heap.size w3).alloc (Nat.le_refl _) (.cells #[.pointer none] 133)))
    go_wp2_with fail
    go_ret2
    exact ⟨rfl, HB4.out⟩
  rw [show chainTime v.me k a b = (topL (chainsL (cyc17 v.me k) (sent17 v.me k a) (sent17 v.me k b)), 0) from by unfold chainTime; rw [if_pos hc]]
  obtain ⟨⟨j, rfl, hj, W⟩, hns⟩ := an_yes hc
  obtain ⟨na, rfl, hna, ho, hnode⟩ := hns a (by simp)
  obtain ⟨nb, rfl, hnb, hp, -⟩ := hns b (by simp)
  have HCZ := Lib.hid hc
  have hni : (na : Int) < 32 := by omega
  have hne := ho.ne
  have hle := ho.le
  have HO := Lib.hid ho
  have HP := Lib.hid hp
  clear hr hc hj W hns hnode ho hp
  have HCH := Lib.hid (fun W b so cap p6 p7 p8 (hW : RdTm W b (cyc17 v.me (j : Int)) (fun n : Nat => sent17 v.me (j : Int) (n : Int))) (hr : RdSd W so (sent17 v.me (j : Int) (na : Int)).length (sent17 v.me (j : Int) (na : Int))) (h1 : (sent17 v.me (j : Int) (na : Int)).length ≤ cap) (h2 : cap ≤ 9223372036854775807) (c6 : W.cell? ⟨p6, 0, none⟩ = some (.pointer (some ⟨b, 0, none⟩))) (c7 : W.cell? ⟨p7, 0, none⟩ = some (.int .i64 (na : Int))) (c8 : W.cell? ⟨p8, 0, none⟩ = some (.int .i64 (nb : Int))) => (show Calls Tryz.prog 92 #[.slice so (sent17 v.me (j : Int) (na : Int)).length cap, .func (.func 106) #[] #[.pointer (some ⟨p6, 0, none⟩), .pointer (some ⟨p7, 0, none⟩), .pointer (some ⟨p8, 0, none⟩)]] W fun e w' => e = .returned (.int .i64 (topL (chainsL (cyc17 v.me (j : Int)) (sent17 v.me (j : Int) (na : Int)) (sent17 v.me (j : Int) (nb : Int))))) ∧ Below W.heap.size W w' from chain_call (ts := (fun n : Nat => sent17 v.me (j : Int) (n : Int))) hW hna hnb HO.out HP.out hr h1 h2 c6 c7 c8))
  have HRS := Lib.hid (fun W b (hW : RdTm W b (cyc17 v.me (j : Int)) (fun n : Nat => sent17 v.me (j : Int) (n : Int))) => (show ∃ ao cap, W.cell? ⟨b, 1 + na, none⟩ = some (.slice ao (sent17 v.me (j : Int) (na : Int)).length cap) ∧ RdSd W ao (sent17 v.me (j : Int) (na : Int)).length (sent17 v.me (j : Int) (na : Int)) ∧ (sent17 v.me (j : Int) (na : Int)).length ≤ cap ∧ cap ≤ 9223372036854775807 from hW.at hna))
  clear HO HP
  generalize topL (chainsL (cyc17 v.me (j : Int)) (sent17 v.me (j : Int) (na : Int)) (sent17 v.me (j : Int) (nb : Int))) = z at HCH ⊢
  generalize (fun n : Nat => sent17 v.me (j : Int) (n : Int)) = ts at HTM HCH HRS
  generalize sent17 v.me (j : Int) (na : Int) = S at HCH HRS hne hle
  generalize cyc17 v.me (j : Int) = C at HTM HCH HRS
  have hmf := hmfunc
  go_enter Tryz.func55, Tryz.ntmps55
  go_upto_region 1 with fail
  have hs0 : (w.alloc (.cells #[.int .i64 v.id, .slice v.no v.n.length v.nc, .slice v.mo v.cs.length v.mc, .slice v.eo v.e.length v.ec] 28)).heap.size = w.heap.size + 1 := World.size_alloc ..
  generalize w.alloc (.cells #[.int .i64 v.id, .slice v.no v.n.length v.nc, .slice v.mo v.cs.length v.mc, .slice v.eo v.e.length v.ec] 28) = w0 at HX hs0 ⊢
  have bA := (Below.refl w0.heap.size w0).alloc (Nat.le_refl _) (.cells #[.int .i64 (na : Int)] 2)
  have HX1 := Lib.hid (HX.out.call bA)
  have kA : (w0.alloc (.cells #[.int .i64 (na : Int)] 2)).cell? ⟨w0.heap.size, 0, none⟩ = some (.int .i64 (na : Int)) := by simp
  have hsa : (w0.alloc (.cells #[.int .i64 (na : Int)] 2)).heap.size = w0.heap.size + 1 := World.size_alloc ..
  clear bA
  generalize w0.alloc (.cells #[.int .i64 (na : Int)] 2) = wa at HX1 kA hsa ⊢
  have bB := (Below.refl wa.heap.size wa).alloc (Nat.le_refl _) (.cells #[.int .i64 (nb : Int)] 2)
  have HX2 := Lib.hid (HX1.out.call bB)
  have kA2 := (bB.cell (p := ⟨w0.heap.size, 0, none⟩) (World.block_lt_of_cell? wa _ kA)).trans kA
  have kB : (wa.alloc (.cells #[.int .i64 (nb : Int)] 2)).cell? ⟨wa.heap.size, 0, none⟩ = some (.int .i64 (nb : Int)) := by simp
  clear bB kA
  generalize wa.alloc (.cells #[.int .i64 (nb : Int)] 2) = w1 at HX2 kA2 kB ⊢
  rw [hsa, hs0] at kB
  rw [hs0] at kA2
  obtain ⟨p8, hp8⟩ : ∃ p8, p8 = w.heap.size + 1 + 1 := ⟨_, rfl⟩
  rw [← hp8] at kB ⊢
  obtain ⟨p7, hp7⟩ : ∃ p7, p7 = w.heap.size + 1 := ⟨_, rfl⟩
  rw [← hp7] at kA2 ⊢
  clear hs0 hsa
  clear hp7 hp8 HX HX1
  obtain ⟨z0, z1, z2, z3⟩ := HX2.out.at_.all
  have bN := (Below.refl w1.heap.size w1).alloc (Nat.le_refl _) (.cells #[.int .i64 (na : Int), .int .i64 (nb : Int)] 2)
  have HX3 := Lib.hid (HX2.out.call bN)
  have HD2 := Lib.hid (rd_two 2 (na : Int) (nb : Int) w1)
  have HK := Lib.hid (show ∀ W, Below w1.heap.size w1 W → W.cell? ⟨p7, 0, none⟩ = some (.int .i64 (na : Int)) ∧ W.cell? ⟨p8, 0, none⟩ = some (.int .i64 (nb : Int)) from fun W hW => ⟨(hW.cell (p := ⟨p7, 0, none⟩) (World.block_lt_of_cell? w1 _ kA2)).trans kA2, (hW.cell (p := ⟨p8, 0, none⟩) (World.block_lt_of_cell? w1 _ kB)).trans kB⟩)
  have HBN := Lib.hid bN
  clear bN
  go_wp2_with fail
  refine (HTM.out _ _ _ _ HX3.out.rd HD2.out (by omega)).mono ?_
  rintro e w3 ⟨b3, hcase⟩
  have HB3 := Lib.hid (HX3.out.call b3).below
  have HK3 := Lib.hid (HK.out _ (below_two HBN.out b3))
  have HLB := Lib.hid (HBN.out.size)
  clear b3 z0 z1 z2 z3 HX2 HX3 HD2 HK HBN kA2 kB
  rcases hcase with ⟨h9, -⟩ | ⟨-, b, rfl, ht⟩
  · exact absurd HCZ.out h9
  have HT := Lib.hid ht
  clear ht
  obtain ⟨k7, k8⟩ := HK3.out
  have bP := (Below.refl w3.heap.size w3).alloc (Nat.le_refl _) (.cells #[.pointer (some ⟨b, 0, none⟩)] 133)
  have HT4 := Lib.hid (HT.out.below bP)
  have HB4 := Lib.hid (below_two HB3.out bP)
  have c7 := (bP.cell (p := ⟨p7, 0, none⟩) (World.block_lt_of_cell? w3 _ k7)).trans k7
  have c8 := (bP.cell (p := ⟨p8, 0, none⟩) (World.block_lt_of_cell? w3 _ k8)).trans k8
  have c6 : (w3.alloc (.cells #[.pointer (some ⟨b, 0, none⟩)] 133)).cell? ⟨w3.heap.size, 0, none⟩ = some (.pointer (some ⟨b, 0, none⟩)) := by simp
  clear bP k7 k8 HK3 HT HB3
  go_upto_region 2 with fail
  generalize w3.alloc (.cells #[.pointer (some ⟨b, 0, none⟩)] 133) = w4 at HT4 HB4 c6 c7 c8 ⊢
  obtain ⟨p6, hp6⟩ : ∃ p6, p6 = w3.heap.size := ⟨_, rfl⟩
  rw [← hp6] at c6 ⊢
  clear hp6
  go_upto_region 4 with fail
  have HT5 := Lib.hid (HT4.out.below (Below.drew (Below.refl w4.heap.size w4)))
  have HB5 := Lib.hid (Below.drew HB4.out)
  clear HT4 HB4
  obtain ⟨vo, vc, hv, hrd, q1, q2⟩ := HRS.out w4.drew b HT5.out
  have HRD := Lib.hid hrd
  have hq : w4.drew.cell? ⟨p6, 0, none⟩ = some (.pointer (some ⟨b, 0, none⟩)) ∧ w4.drew.cell? ⟨p7, 0, none⟩ = some (.int .i64 (na : Int)) ∧ w4.drew.cell? ⟨p8, 0, none⟩ = some (.int .i64 (nb : Int)) ∧ w4.drew.cell? ⟨b, 1 + na, none⟩ = some (.slice vo S.length vc) := ⟨c6, c7, c8, hv⟩
  clear hrd c6 c7 c8 hv
  refine wp_region_held_drew (S := fun w' => w'.cell? ⟨p6, 0, none⟩ = some (.pointer (some ⟨b, 0, none⟩)) ∧ w'.cell? ⟨p7, 0, none⟩ = some (.int .i64 (na : Int)) ∧ w'.cell? ⟨p8, 0, none⟩ = some (.int .i64 (nb : Int)) ∧ w'.cell? ⟨b, 1 + na, none⟩ = some (.slice vo S.length vc)) (by kernel_rfl) (hq) (fun hHeld => ?_)
  generalize w4.drew = y4 at HT5 HB5 HRD hq hHeld ⊢
  refine wpAnyH_take (i := 0) (v := ?_) rfl (by kernel_rfl) (by kernel_rfl) (by kernel_rfl) (fun _ _ _ h => h) (Or.inl ⟨by rfl, ?_⟩) (by assumption) ?_
  rotate_left
  · (intro w hSw; (try dsimp only at hSw); go_simp; (try with_reducible rfl))
  try simp only [pa, pb, pc, Act.put, pe, pf, pg]
  refine wpAnyH_take (i := 1) (v := ?_) rfl (by kernel_rfl) (by kernel_rfl) (by kernel_rfl) (fun _ _ _ h => h) (Or.inl ⟨by rfl, ?_⟩) (by assumption) ?_
  rotate_left
  · (intro w hSw; (try dsimp only at hSw); go_simp; (try with_reducible rfl))
  try simp only [pa, pb, pc, Act.put, pe, pf, pg]
  refine wpAnyH_take (i := 2) (v := ?_) rfl (by kernel_rfl) (by kernel_rfl) (by kernel_rfl) (fun _ _ _ h => h) (Or.inl ⟨by rfl, ?_⟩) (by assumption) ?_
  rotate_left
  · (intro w hSw; (try dsimp only at hSw); go_simp; (try with_reducible rfl))
  try simp only [pa, pb, pc, Act.put, pe, pf, pg]
  refine wpAnyH_take (i := 3) (v := ?_) rfl (by kernel_rfl) (by kernel_rfl) (by kernel_rfl) (fun _ _ _ h => h) (Or.inl ⟨by rfl, ?_⟩) (by assumption) ?_
  rotate_left
  · (intro w hSw; (try dsimp only at hSw); go_simp; (try with_reducible rfl))
  try simp only [pa, pb, pc, Act.put, pe, pf, pg]
  refine wpAnyH_take (i := 4) (v := ?_) rfl (by kernel_rfl) (by kernel_rfl) (by kernel_rfl) (fun _ _ _ h => h) (Or.inl ⟨by rfl, ?_⟩) (by assumption) ?_
  rotate_left
  · (intro w hSw; (try dsimp only at hSw); go_simp; (try with_reducible rfl))
  try simp only [pa, pb, pc, Act.put, pe, pf, pg]
  refine wpAnyH_take (i := 5) (v := ?_) rfl (by kernel_rfl) (by kernel_rfl) (by kernel_rfl) (fun _ _ _ h => h) (Or.inl ⟨by rfl, ?_⟩) (by assumption) ?_
  rotate_left
  · (intro w hSw; (try dsimp only at hSw); go_simp; (try with_reducible rfl))
  try simp only [pa, pb, pc, Act.put, pe, pf, pg]
  refine wpAnyH_take (i := 6) (v := ?_) rfl (by kernel_rfl) (by kernel_rfl) (by kernel_rfl) (fun _ _ _ h => h) (Or.inl ⟨by rfl, ?_⟩) (by assumption) ?_
  rotate_left
  · (intro w hSw; (try dsimp only at hSw); go_simp; (try with_reducible rfl))
  try simp only [pa, pb, pc, Act.put, pe, pf, pg]
  refine wpAnyH_ready (rs := [7]) (by kernel_rfl) (by simp) (AllReadyH.cons rfl (fun K hK => ?_) AllReadyH.nil)
  go_simp
  refine (HCH.out y4 b vo vc p6 p7 p8 HT5.out HRD.out q1 q2 hq.1 hq.2.1 hq.2.2.1).mono ?_
  rintro e y5 ⟨rfl, b5⟩
  have HB6 := Lib.hid (below_two HB5.out b5)
  have hqn : y5.cell? ⟨p6, 0, none⟩ = some (.pointer (some ⟨b, 0, none⟩)) ∧ y5.cell? ⟨p7, 0, none⟩ = some (.int .i64 (na : Int)) ∧ y5.cell? ⟨p8, 0, none⟩ = some (.int .i64 (nb : Int)) ∧ y5.cell? ⟨b, 1 + na, none⟩ = some (.slice vo S.length vc) := ⟨(b5.cell (p := ⟨p6, 0, none⟩) (World.block_lt_of_cell? y4 _ hq.1)).trans hq.1, (b5.cell (p := ⟨p7, 0, none⟩) (World.block_lt_of_cell? y4 _ hq.2.1)).trans hq.2.1, (b5.cell (p := ⟨p8, 0, none⟩) (World.block_lt_of_cell? y4 _ hq.2.2.1)).trans hq.2.2.1, (b5.cell (p := ⟨b, 1 + na, none⟩) (World.block_lt_of_cell? y4 _ hq.2.2.2)).trans hq.2.2.2⟩
  clear b5 hq
  go_wp2_with fail
  refine hK.out _ _ ?_ (fun hHeld => ?_)
  · exact hqn
  clear hK K
  try simp only [pa, pb, pc, Act.put, pe, pf, pg]
  refine wpAnyH_take (i := 8) (v := ?_) rfl (by kernel_rfl) (by kernel_rfl) (by kernel_rfl) (fun _ _ _ h => h) (Or.inl ⟨by rfl, ?_⟩) (by assumption) ?_
  rotate_left
  · (intro w hSw; (try dsimp only at hSw); go_simp; (try with_reducible rfl))
  try simp only [pa, pb, pc, Act.put, pe, pf, pg]
  refine wpAnyH_take (i := 9) (v := ?_) rfl (by kernel_rfl) (by kernel_rfl) (by kernel_rfl) (fun _ _ _ h => h) (Or.inl ⟨by rfl, ?_⟩) (by assumption) ?_
  rotate_left
  · (intro w hSw; (try dsimp only at hSw); go_simp; (try with_reducible rfl))
  try simp only [pa, pb, pc, Act.put, pe, pf, pg]
  refine wpAnyH_done (by kernel_rfl) ?_ _
  go_wp2_with fail
  go_ret2
  exact ⟨rfl, HB6.out⟩
set_option linter.unusedSimpArgs false in
set_option maxRecDepth 100000 in
set_option maxHeartbeats 4000000 in
theorem useOf_any (v : Mv) (k : Int) (w : World) (hr : RdMe w v) :
    Calls Tryz.prog 45 #[mvVal v, .int .i64 k] w fun e w' => e = .returned (.tuple #[.int .i64 (useOf v.me k).1, .int .i64 (useOf v.me k).2]) ∧ Below w.heap.size w w' := by
  have HX := Lib.hid (Bx.start (T := 28) hr)
  have HC := Lib.hid (fun W hW => codeMe_any v k W hW)
  by_cases hc : codeMe v.me k = 0
  rotate_left
  · rw [show useOf v.me k = (0, codeMe v.me k) from by unfold useOf; rw [show codeLm v.me k = codeMe v.me k from rfl, if_neg hc]]
    generalize codeMe v.me k = c at HC hc ⊢
    have hcb : (c != 0) = true := by simp [hc]
    clear hr hc
    unfold mvVal at HC ⊢
    go_enter Tryz.func45, Tryz.ntmps45
    go_upto_region 1 with fail
    generalize w.alloc (.cells #[.int .i64 v.id, .slice v.no v.n.length v.nc, .slice v.mo v.cs.length v.mc, .slice v.eo v.e.length v.ec] 28) = w1 at HX ⊢
    obtain ⟨z0, z1, z2, z3⟩ := HX.out.at_.all
    go_wp2_with fail
    refine (HC.out _ HX.out.rd).mono ?_
    rintro e w2 ⟨rfl, b2⟩
    clear z0 z1 z2 z3
    go_wp2_with fail
    go_ret2
    exact ⟨rfl, (HX.out.call b2).below⟩
  have hlm : codeLm v.me k = 0 := hc
  rw [show useOf v.me k = (1000 * cellSum (cycK v.me k) / cyc17 v.me k, 0) from by unfold useOf; rw [if_pos hlm]]
  rw [hc] at HC
  obtain ⟨j, rfl, hj, hw⟩ := lm_yes hlm
  have hjc : j < v.cs.length := by have e : v.me.modes.length = v.cs.length := mds_len v.cs; omega
  have HCY := Lib.hid (fun W (hW : RdMe W v) => cycleOf_any v j W hW hw.full hjc)
  have hle : (inMode v.e j).length ≤ 120 := Nat.le_trans (inMode_le v.e j) (isSls_iff.1 hw.r4).1
  have HTI := Lib.hid (fun ao n c W (hW : RdE W ao n (inMode v.e j)) (hn : n ≤ 1048576) => timeOf_any ao n c (inMode v.e j) W hW hn (cyc_dur hw))
  have HCI := Lib.hid (fun ao n c W (hW : RdE W ao n (inMode v.e j)) (hn : n ≤ 1000) => cellsIn_any ao n c (inMode v.e j) W hW hn (fun x hx => (sl_bounds hw.r4 (inMode_sub hx)).2.2.2))
  have hcs := cellSum_in (inMode v.e j)
  have hpos : 1 ≤ dursum (inMode v.e j) := by
    have h1 := dursum_in (t := inMode v.e j) (cyc_dur hw)
    have h2 := cyc_len (m := v.me) hw hj
    have b := md_bounds hw.r3 hj
    have : 1 * 1 ≤ (mdOf v.me.modes j).rounds.toNat * (mdOf v.me.modes j).slots.toNat := Nat.mul_le_mul (by omega) (by omega)
    have h2 : (inMode v.e j).length = (mdOf v.me.modes j).rounds.toNat * (mdOf v.me.modes j).slots.toNat := h2
    omega
  have HE := Lib.hid (show 1000 * cellSum (cycK v.me (j : Int)) / cyc17 v.me (j : Int) = (1000 * cellSum (inMode v.e j)).tdiv (dursum (inMode v.e j)) from by rw [Int.tdiv_eq_ediv_of_nonneg (by omega)]; rfl)
  generalize 1000 * cellSum (cycK v.me (j : Int)) / cyc17 v.me (j : Int) = R at HE ⊢
  generalize cellSum (inMode v.e j) = cz at HCI hcs HE
  generalize dursum (inMode v.e j) = dz at HTI hpos HE
  change Hid (∀ ao n c W, RdE W ao n (inMode v.e j) → n ≤ 1048576 → _) at HTI
  generalize inMode v.e j = E9 at HCY HTI HCI hle hcs
  have hw1 : IntKind.i64.wrap (1000 * cz) = 1000 * cz := by rw [IntKind.wrap_i64]; omega
  have hdz : ¬ dz = 0 := by omega
  have hb1 := Int.tdiv_nonneg (a := 1000 * cz) (b := dz) (by omega) (by omega)
  have hb2 : (1000 * cz).tdiv dz ≤ 1000 * cz := by rw [Int.tdiv_eq_ediv_of_nonneg (by omega)]; exact Int.ediv_le_self _ (by omega)
  have hw2 : IntKind.i64.wrap ((1000 * cz).tdiv dz) = (1000 * cz).tdiv dz := by rw [IntKind.wrap_i64]; omega
  clear hc hlm hw hj hjc hr hpos hb1 hb2
  unfold mvVal at HC HCY ⊢
  go_enter Tryz.func45, Tryz.ntmps45
  go_upto_region 1 with fail
  generalize w.alloc (.cells #[.int .i64 v.id, .slice v.no v.n.length v.nc, .slice v.mo v.cs.length v.mc, .slice v.eo v.e.length v.ec] 28) = w1 at HX ⊢
  obtain ⟨z0, z1, z2, z3⟩ := HX.out.at_.all
  go_wp2_with fail
  refine (HC.out _ HX.out.rd).mono ?_
  rintro e w2 ⟨rfl, b2⟩
  have HX2 := Lib.hid (HX.out.call b2)
  clear z0 z1 z2 z3 b2 HX
  obtain ⟨z0, z1, z2, z3⟩ := HX2.out.at_.all
  go_wp2_with fail
  refine (HCY.out _ HX2.out.rd).mono ?_
  rintro e w4 ⟨so, sc, rfl, srd, -, -, b4⟩
  have HB4 := Lib.hid (HX2.out.call b4).below
  have HS4 := Lib.hid srd
  clear z0 z1 z2 z3 b4 srd HX2
  go_wp2_with fail
  refine (HCI.out _ _ _ _ HS4.out (by omega)).mono ?_
  rintro e w5 ⟨rfl, b5⟩
  have HB5 := Lib.hid (below_two HB4.out b5)
  have HS5 := Lib.hid (HS4.out.below b5)
  clear b5 HB4 HS4
  go_wp2_with fail
  refine (HTI.out _ _ _ _ HS5.out (by omega)).mono ?_
  rintro e w6 ⟨rfl, b6⟩
  have HB6 := Lib.hid (below_two HB5.out b6)
  clear b6 HB5 HS5
  go_wp2_with fail
  go_ret2
  exact ⟨by rw [HE.out]; rfl, HB6.out⟩
set_option linter.unusedSimpArgs false in
set_option maxRecDepth 100000 in
set_option maxHeartbeats 4000000 in
theorem slackOf_any (v : Mv) (k : Int) (w : World) (hr : RdMe w v) :
    Calls Tryz.prog 47 #[mvVal v, .int .i64 k] w fun e w' => e = .returned (.tuple #[.int .i64 (slackOf v.me k).1, .int .i64 (slackOf v.me k).2]) ∧ Below w.heap.size w w' := by
  have HX := Lib.hid (Bx.start (T := 28) hr)
  have HC := Lib.hid (fun W hW => codeMe_any v k W hW)
  by_cases hc : codeMe v.me k = 0
  rotate_left
  · rw [show slackOf v.me k = (0, codeMe v.me k) from by unfold slackOf; rw [show codeLm v.me k = codeMe v.me k from rfl, if_neg hc]]
    generalize codeMe v.me k = c at HC hc ⊢
    have hcb : (c != 0) = true := by simp [hc]
    clear hr hc
    unfold mvVal at HC ⊢
    go_enter Tryz.func47, Tryz.ntmps47
    go_upto_region 1 with fail
    generalize w.alloc (.cells #[.int .i64 v.id, .slice v.no v.n.length v.nc, .slice v.mo v.cs.length v.mc, .slice v.eo v.e.length v.ec] 28) = w1 at HX ⊢
    obtain ⟨z0, z1, z2, z3⟩ := HX.out.at_.all
    go_wp2_with fail
    refine (HC.out _ HX.out.rd).mono ?_
    rintro e w2 ⟨rfl, b2⟩
    clear z0 z1 z2 z3
    go_wp2_with fail
    go_ret2
    exact ⟨rfl, (HX.out.call b2).below⟩
  have hlm : codeLm v.me k = 0 := hc
  rw [show slackOf v.me k = (lowL ((cycK v.me k).map pauseSl), 0) from by unfold slackOf; rw [if_pos hlm]]
  rw [hc] at HC
  obtain ⟨j, rfl, hj, hw⟩ := lm_yes hlm
  have hjc : j < v.cs.length := by have e : v.me.modes.length = v.cs.length := mds_len v.cs; omega
  have HCY := Lib.hid (fun W (hW : RdMe W v) => cycleOf_any v j W hW hw.full hjc)
  have hpos : 0 < (inMode v.e j).length := by
    have h2 := cyc_len (m := v.me) hw hj
    have b := md_bounds hw.r3 hj
    have : 1 * 1 ≤ (mdOf v.me.modes j).rounds.toNat * (mdOf v.me.modes j).slots.toNat := Nat.mul_le_mul (by omega) (by omega)
    have h2 : (inMode v.e j).length = (mdOf v.me.modes j).rounds.toNat * (mdOf v.me.modes j).slots.toNat := h2
    omega
  have HLP := Lib.hid (fun W so cap (hr : RdE W so (inMode v.e j).length (inMode v.e j)) (h1 : (inMode v.e j).length ≤ cap) (h2 : cap ≤ 9223372036854775807) => (show Calls Tryz.prog 100 #[.slice so (inMode v.e j).length cap, .func (.func 101) #[] #[]] W fun e w' => e = .returned (.int .i64 (lowL ((inMode v.e j).map pauseSl))) ∧ Below W.heap.size W w' from
    lowPause_any so (inMode v.e j).length cap (inMode v.e j) ((inMode v.e j).map pauseSl) W hr hpos (by simp) h1 h2 (fun i hi W' _ => by
      have e : ((inMode v.e j).map pauseSl).getD i 0 = pauseSl (slOf (inMode v.e j) i) := by simp [List.getD, hi, slOf_get hi]
      rw [e]
      exact pauseIn_any (slOf (inMode v.e j) i) W' (sl_bounds hw.r4 (inMode_sub (slOf_mem hi))).2.2.2)))
  have HE := Lib.hid (show lowL ((cycK v.me (j : Int)).map pauseSl) = lowL ((inMode v.e j).map pauseSl) from rfl)
  generalize lowL ((cycK v.me (j : Int)).map pauseSl) = R at HE ⊢
  rw [← HE.out] at HLP
  clear HE
  generalize inMode v.e j = E9 at HCY HLP hpos
  clear hc hlm hw hj hjc hr
  unfold mvVal at HC HCY ⊢
  go_enter Tryz.func47, Tryz.ntmps47
  go_upto_region 1 with fail
  generalize w.alloc (.cells #[.int .i64 v.id, .slice v.no v.n.length v.nc, .slice v.mo v.cs.length v.mc, .slice v.eo v.e.length v.ec] 28) = w1 at HX ⊢
  obtain ⟨z0, z1, z2, z3⟩ := HX.out.at_.all
  go_wp2_with fail
  refine (HC.out _ HX.out.rd).mono ?_
  rintro e w2 ⟨rfl, b2⟩
  have HX2 := Lib.hid (HX.out.call b2)
  clear z0 z1 z2 z3 b2 HX
  obtain ⟨z0, z1, z2, z3⟩ := HX2.out.at_.all
  go_wp2_with fail
  refine (HCY.out _ HX2.out.rd).mono ?_
  rintro e w4 ⟨so, sc, rfl, srd, q1, q2, b4⟩
  have HB4 := Lib.hid (HX2.out.call b4).below
  have HS4 := Lib.hid srd
  clear z0 z1 z2 z3 b4 srd HX2
  go_wp2_with fail
  refine (HLP.out _ _ _ HS4.out q1 q2).mono ?_
  rintro e w5 ⟨rfl, b5⟩
  go_wp2_with fail
  go_ret2
  exact ⟨rfl, below_two HB4.out b5⟩
end
end Go.Proofs.YthihjhidjnadaaaGreat
