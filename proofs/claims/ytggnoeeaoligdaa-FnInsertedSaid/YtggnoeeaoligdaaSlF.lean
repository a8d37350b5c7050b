/-
  Chapter 12: a map whose keys are slots and whose elements are descriptors.
  Chapter 12: the program's map of slots; FindSlot; the codes of InsertSlot.
  Chapter 12: FindSlot, the codes of InsertSlot, SlotsOfNode.
  Chapter 12: l12Find and FindSlot of the model; SlotsOfNode of both.
-/
import Derived.Test.YtggnoeeaoligdaaSlA
import Derived.Test.YtggnoeeaoligdaaSlR
import Derived.Maps.OwnSet
import Derived.Maps.OwnOps
import Derived.DeepKeys4
import Derived.Carry
import Derived.Test.YtggnoeeaoligdaaEigA
import Derived.Test.YtggnoeeaoligdaaEigB
import Derived.Test.YtggnoeeaoligdaaSlB
namespace Go.Proofs.Ytggnoeeaoligdaa
section
open Go.RowKit Go.Maps

def keyV (m r s : Int) : Value := .agg #[.int .i64 m, .int .i64 r, .int .i64 s]
def keyL (m r s : Int) : Lit := .string (keyBytes [.int .i64 m, .int .i64 r, .int .i64 s])
def wfk (m r s : Int) : Prop := (Lit.int .i64 m).wf = true ∧ (Lit.int .i64 r).wf = true ∧ (Lit.int .i64 s).wf = true
theorem keyS_laid : laidOutB Try.prog = true := by kernel_rfl
theorem keyS_law : Keyed Try.prog 113 := Keyed.of_law (deep_law_laid keyS_laid (m := 3) (by omega) (of_decide_eq_true (by kernel_rfl)) (by kernel_rfl) (by kernel_rfl))
theorem keyOf_slot {m r s : Int} (h : wfk m r s) : keyOf Try.prog 113 (keyV m r s) = some (keyL m r s) := by
  obtain ⟨h1, h2, h3⟩ := h
  have hu := Try.underlying113
  have hi := Try.underlying2
  have hk : Try.prog.keyType 113 = true := by kernel_rfl
  have hf : (keyV m r s).formed Try.prog 113 = true := by kernel_rfl
  have hl : ∀ d, Try.prog.keyLits (d + 1) 2 [.int .i64 m] = some [.int .i64 m] := fun d => by simp [Program.keyLits, hi, h1]
  have hl2 : ∀ d, Try.prog.keyLits (d + 1) 2 [.int .i64 r] = some [.int .i64 r] := fun d => by simp [Program.keyLits, hi, h2]
  have hl3 : ∀ d, Try.prog.keyLits (d + 1) 2 [.int .i64 s] = some [.int .i64 s] := fun d => by simp [Program.keyLits, hi, h3]
  have hc : Try.prog.cellsOf 2 = 1 := by kernel_rfl
  have hc3 : Try.prog.cellsOf 113 = 3 := by kernel_rfl
  have hs : ∃ q, Try.prog.types.size = q + 1 := ⟨Try.prog.types.size - 1, by have : 0 < Try.prog.types.size := of_decide_eq_true (by kernel_rfl)
                                                                             omega⟩
  obtain ⟨q, hq⟩ := hs
  unfold keyOf
  rw [hu]
  simp only [hk, hf, Bool.and_self, if_true, hq]
  have : Try.prog.keyLits (q + 1 + 1) 113 (keyV m r s).cells.toList = some [.int .i64 m, .int .i64 r, .int .i64 s] := by
    rw [show (keyV m r s).cells.toList = [.int .i64 m, .int .i64 r, .int .i64 s] from rfl]
    unfold Program.keyLits
    rw [hu]
    simp [hc, hc3, hl, hl2, hl3]
  rw [this]
  rfl
/-- An element is read as itself. -/
def selfElem (v : Value) : Option (DataW Value × List MemPlace) := some (.held v, [])
def dsZ : Value := dsVal Ds.zero
/-- Block b is a map of at most n entries; its keys are the slots that f sends somewhere, each with its descriptor. -/
def SlotMap (w : World) (b n : Nat) (f : Int → Int → Int → Option Ds) : Prop :=
  ∃ D : DataW Value, w.ownsMap Try.prog 113 selfElem b n D ∧ ∀ m r s, wfk m r s → Maps.has D (keyL m r s) = (f m r s).isSome ∧ ∀ d, f m r s = some d → D.atKey (keyL m r s) (.held dsZ) = .held (dsVal d)
theorem keyL_inj {m r s m' r' s' : Int} (h : wfk m r s) (h' : wfk m' r' s') (e : keyL m r s = keyL m' r' s') : m = m' ∧ r = r' ∧ s = s' := by
  have h1 := keyOf_slot h
  rw [e] at h1
  have := keyS_law.inj h1 (keyOf_slot h')
  unfold keyV at this
  simpa using this
section
variable {w w' : World} {b n : Nat} {f : Int → Int → Int → Option Ds}
theorem slotMap_made (w : World) : SlotMap (w.alloc (.map #[] 0)) w.heap.size 0 (fun _ _ _ => none) :=
  ⟨_, World.ownsMap_made w _ _ _, fun m r s _ => ⟨rfl, fun y h => by cases h⟩⟩
theorem SlotMap.kept {row : Option Nat} (h : SlotMap w b n f) (hg : w.grownBy w' row) (hne : some b ≠ row) : SlotMap w' b n f := by
  obtain ⟨D, h1, h2⟩ := h
  exact ⟨D, h1.kept hg hne, h2⟩
theorem SlotMap.below (h : SlotMap w b n f) (hb : Below w.heap.size w w') : SlotMap w' b n f := h.kept (row := none) ⟨hb.os, hb.tape, hb.output, hb.size, fun i hi _ => hb.block i hi⟩ (by simp)
theorem SlotMap.lt (h : SlotMap w b n f) : b < w.heap.size := by obtain ⟨D, h1, _⟩ := h; exact h1.lt
end
/-- 'make(map[slotKey]Descriptor, n)': the number is only a hint. -/
theorem makeSlotMap (q : IntKind) (x : Int) (w : World) :
    (Instr.makeMap 110 (some (.int q x))).run Try.prog w = .ok (.map (some w.heap.size)) (w.alloc (.map #[] 0)) := by
  simp [Instr.makeMap, run_underlying Try.underlying110, Result.andThen]; rfl
theorem zeroDs (w : World) : (zeroValue 36).run Try.prog w = .ok dsZ w := by kernel_rfl
section
variable (w : World) {ops : Array Oper} {rest : List Oper} {o : Oper} {a : Act} {Q : Exit → Act → World → Prop} {K : Act → World → Prop}
/-- 'd, ok := m[k]'. -/
theorem lookS_op (m x : Operand) (hop : o.op = Op.lookup 110 m x true) (b n : Nat) (f : Int → Int → Int → Option Ds) (hm : a.eval m = .map (some b)) (hown : SlotMap w b n f) (k1 k2 k3 : Int) (hx : a.eval x = keyV k1 k2 k3) (hwf : wfk k1 k2 k3)
    (h : K (a.put o.dst (.tuple #[dsVal ((f k1 k2 k3).getD Ds.zero), .bool (f k1 k2 k3).isSome])) w) : o.wp Try.prog a w K Q := by
  obtain ⟨D, h1, h2⟩ := hown
  obtain ⟨v, ps, hrun, hv⟩ := h1.look_ok keyS_law Try.underlying110 (zeroDs w) (zd := .held dsZ) (zp := []) rfl (keyOf_slot hwf)
  obtain ⟨h3, h4⟩ := h2 k1 k2 k3 hwf
  have hv2 : v = dsVal ((f k1 k2 k3).getD Ds.zero) := by
    unfold selfElem at hv
    have e := (Prod.mk.inj (Option.some.inj hv)).1
    rcases hf : f k1 k2 k3 with _ | d
    · rw [hf] at h3
      rw [atKey_of_not_has h3] at e
      cases e
      rfl
    · rw [h4 d hf] at e
      cases e
      rfl
  rw [h3, hv2] at hrun
  unfold Oper.wp
  simp [execOp, hop, hm, hx, hrun, Result.andThen]
  exact h
theorem lookS (hgd : o.guard = none) (m x : Operand) (hop : o.op = Op.lookup 110 m x true) (b n : Nat) (f : Int → Int → Int → Option Ds) (hm : a.eval m = .map (some b)) (hown : SlotMap w b n f) (k1 k2 k3 : Int) (hx : a.eval x = keyV k1 k2 k3) (hwf : wfk k1 k2 k3)
    (h : wpList Try.prog ops Q rest (a.put o.dst (.tuple #[dsVal ((f k1 k2 k3).getD Ds.zero), .bool (f k1 k2 k3).isSome])) w) : wpList Try.prog ops Q (o :: rest) a w :=
  wpList_plain hgd fun _ hK => lookS_op w m x hop b n f hm hown k1 k2 k3 hx hwf (hK _ _ h)
def updS (f : Int → Int → Int → Option Ds) (k1 k2 k3 : Int) (d : Ds) : Int → Int → Int → Option Ds := fun m r s => if m = k1 ∧ r = k2 ∧ s = k3 then some d else f m r s
/-- 'm[k] = d'. -/
theorem storeS_op (m x v : Operand) (hop : o.op = Op.mapUpdate 110 m x v) (b n : Nat) (f : Int → Int → Int → Option Ds) (hm : a.eval m = .map (some b)) (hown : SlotMap w b n f) (hn : n ≤ 4294967296) (k1 k2 k3 : Int) (d : Ds) (hx : a.eval x = keyV k1 k2 k3) (hv : a.eval v = dsVal d) (hwf : wfk k1 k2 k3)
    (h : ∀ w', SlotMap w' b (n + 1) (updS f k1 k2 k3 d) → w.grownBy w' (some b) → K (a.put o.dst undef) w') : o.wp Try.prog a w K Q := by
  obtain ⟨D, h1, h2⟩ := hown
  obtain ⟨w1, hrun, h3, h4⟩ := h1.store keyS_law Try.underlying110 (by unfold maxLen; omega) (keyOf_slot hwf) (show selfElem (dsVal d) = some (.held (dsVal d), []) from rfl)
  unfold Oper.wp
  simp [execOp, hop, hm, hx, hv, hrun, Result.andThen]
  refine h w1 ⟨_, h3, fun m' r' s' hw' => ?_⟩ h4.grown
  unfold updS
  by_cases e : m' = k1 ∧ r' = k2 ∧ s' = k3
  · rw [if_pos e]
    obtain ⟨rfl, rfl, rfl⟩ := e
    refine ⟨has_put_same h1.isMap (by trivial) _, fun y hy => ?_⟩
    rw [atKey_put_same h1.isMap (by trivial)]
    cases hy
    rfl
  · rw [if_neg e]
    have hne : keyL m' r' s' ≠ keyL k1 k2 k3 := fun e2 => e (keyL_inj hw' hwf e2)
    rw [has_put_other hne, atKey_put_other hne]
    exact h2 m' r' s' hw'
end
end

section
open Go.RowKit Go.Maps

/-! ### what the map holds -/
def sent (t : List Sl) (m r s : Int) : Option Ds := (t.reverse.find? (sameSl m r s)).map (·.desc)
theorem sent_nil : sent [] = fun _ _ _ => none := rfl
theorem sent_snoc (t : List Sl) (x : Sl) : sent (t ++ [x]) = updS (sent t) x.mode x.round x.slot x.desc := by
  funext m r s
  unfold sent updS
  rw [List.reverse_append, List.reverse_singleton, List.singleton_append, List.find?_cons]
  by_cases h : m = x.mode ∧ r = x.round ∧ s = x.slot
  · obtain ⟨rfl, rfl, rfl⟩ := h
    simp [sameSl]
  · have : sameSl m r s x = false := by
      rw [Bool.eq_false_iff]
      intro hc
      obtain ⟨h1, h2, h3⟩ := same_iff.1 hc
      exact h ⟨h1.symm, h2.symm, h3.symm⟩
    rw [if_neg h, this]
theorem sls_uniq {t : List Sl} (h : isSls t = true) {m r s : Int} {x y : Sl} (hx : x ∈ t) (hy : y ∈ t) (h1 : sameSl m r s x = true) (h2 : sameSl m r s y = true) : x = y := by
  obtain ⟨-, -, h3⟩ := isSls_iff.1 h
  obtain ⟨a1, a2, a3⟩ := same_iff.1 h1
  obtain ⟨b1, b2, b3⟩ := same_iff.1 h2
  obtain ⟨i, hi, ei⟩ := List.getElem_of_mem hx
  obtain ⟨j, hj, ej⟩ := List.getElem_of_mem hy
  rcases Nat.lt_trichotomy i j with hij | rfl | hij
  · have := List.pairwise_iff_getElem.1 h3 i j hi hj hij
    rw [ei, ej, cmp_lt] at this
    omega
  · rw [← ei, ← ej]
  · have := List.pairwise_iff_getElem.1 h3 j i hj hi hij
    rw [ei, ej, cmp_lt] at this
    omega
theorem sent_find {t : List Sl} (h : isSls t = true) (m r s : Int) : sent t m r s = (t.find? (sameSl m r s)).map (·.desc) := by
  unfold sent
  rcases h1 : t.find? (sameSl m r s) with _ | x
  · have : t.reverse.find? (sameSl m r s) = none := by
      rw [List.find?_eq_none] at h1 ⊢
      exact fun y hy => h1 y (List.mem_reverse.1 hy)
    rw [this]
  · rcases h2 : t.reverse.find? (sameSl m r s) with _ | y
    · have := List.find?_eq_none.1 h2 x (List.mem_reverse.2 (List.mem_of_find?_eq_some h1))
      exact absurd (List.find?_some h1) this
    · rw [sls_uniq h (List.mem_of_find?_eq_some h1) (List.mem_reverse.1 (List.mem_of_find?_eq_some h2)) (List.find?_some h1) (List.find?_some h2)]
def wfE (x : Sl) : Prop := wfk x.mode x.round x.slot
theorem wfE_of {x : Sl} (h : isSl x = true) : wfE x := by
  obtain ⟨h1, h2, h3, -⟩ := isSl_iff.1 h
  exact ⟨WalkArith.wf_i64 (by omega), WalkArith.wf_i64 (by omega), WalkArith.wf_i64 (by omega)⟩
theorem wfE_all {t : List Sl} (h : isSls t = true) : ∀ x ∈ t, wfE x := fun x hx => wfE_of ((isSls_iff.1 h).2.1 x hx)
theorem findSlot_no {t : List Sl} {m r s : Int} (h : isSls t = false) : findSlot t m r s = (Ds.zero, 1) := by unfold findSlot; rw [if_pos h]
theorem findSlot_none {t : List Sl} {m r s : Int} (h : isSls t = true) (h2 : sent t m r s = none) : findSlot t m r s = (Ds.zero, 4) := by
  rw [sent_find h] at h2
  unfold findSlot
  rw [if_neg (by rw [h]; simp)]
  rcases hf : t.find? (sameSl m r s) with _ | x
  · rfl
  · rw [hf] at h2; cases h2
theorem findSlot_some {t : List Sl} {m r s : Int} {d : Ds} (h : isSls t = true) (h2 : sent t m r s = some d) : findSlot t m r s = (d, 0) := by
  rw [sent_find h] at h2
  unfold findSlot
  rw [if_neg (by rw [h]; simp)]
  rcases hf : t.find? (sameSl m r s) with _ | x
  · rw [hf] at h2; cases h2
  · rw [hf] at h2; cases h2; rfl
/-- The code of InsertSlot. -/
def codeIns (t : List Sl) (x : Sl) : Int := if isSls t = false then 1 else if isSl x = false then 2 else if (sent t x.mode x.round x.slot).isSome = true then 5 else if t.length = 120 then 3 else 0
theorem sent_any {t : List Sl} (h : isSls t = true) (m r s : Int) : (sent t m r s).isSome = t.any (sameSl m r s) := by
  rw [sent_find h]
  rcases hf : t.find? (sameSl m r s) with _ | x
  · have : t.any (sameSl m r s) = false := List.any_eq_false.2 (List.find?_eq_none.1 hf)
    rw [this]; rfl
  · have : t.any (sameSl m r s) = true := List.any_eq_true.2 ⟨x, List.mem_of_find?_eq_some hf, List.find?_some hf⟩
    rw [this]; rfl
theorem insert_code {t : List Sl} {x : Sl} : (insertSlot t x).2 = codeIns t x ∧ (codeIns t x ≠ 0 → (insertSlot t x).1 = []) := by
  unfold insertSlot codeIns
  by_cases h1 : isSls t = false
  · rw [if_pos h1, if_pos h1]; exact ⟨rfl, fun _ => rfl⟩
  rw [if_neg h1, if_neg h1]
  by_cases h2 : isSl x = false
  · rw [if_pos h2, if_pos h2]; exact ⟨rfl, fun _ => rfl⟩
  rw [if_neg h2, if_neg h2, sent_any (by simpa using h1)]
  by_cases h3 : t.any (sameSl x.mode x.round x.slot) = true
  · rw [if_pos h3, if_pos h3]; exact ⟨rfl, fun _ => rfl⟩
  rw [if_neg h3, if_neg h3]
  by_cases h4 : t.length = 120
  · rw [if_pos h4, if_pos h4]; exact ⟨rfl, fun _ => rfl⟩
  rw [if_neg h4, if_neg h4]
  exact ⟨rfl, fun h => absurd rfl h⟩

/-! ### keyOf -/
set_option maxRecDepth 100000 in
set_option maxHeartbeats 1000000 in
theorem keyOfS_any (x : Sl) (w : World) : Calls Try.prog 138 #[slVal x] w fun e w' => e = .returned (keyV x.mode x.round x.slot) ∧ Below w.heap.size w w' := by
  have HB := Lib.hid (show Below w.heap.size w ((w.alloc (.cells #[.int .i64 x.mode, .int .i64 x.round, .int .i64 x.slot, .int .i64 x.desc.node, .int .i64 x.desc.kind, .int .i64 x.desc.size, .int .i64 x.desc.dur, .bool x.desc.chg] 38)).alloc (.cells #[.int .i64 0, .int .i64 0, .int .i64 0] 113)) from below_two ((Below.refl _ _).alloc (Nat.le_refl _) _) ((Below.refl _ _).alloc (Nat.le_refl _) _))
  have HX := Lib.hid ((SlBk.new (T := 38) (x := x) w).below ((Below.refl _ _).alloc (Nat.le_refl _) (.cells #[.int .i64 0, .int .i64 0, .int .i64 0] 113)) (by simp))
  have h0 : ((w.alloc (.cells #[.int .i64 x.mode, .int .i64 x.round, .int .i64 x.slot, .int .i64 x.desc.node, .int .i64 x.desc.kind, .int .i64 x.desc.size, .int .i64 x.desc.dur, .bool x.desc.chg] 38)).alloc (.cells #[.int .i64 0, .int .i64 0, .int .i64 0] 113)).heap[w.heap.size + 1]? = some (.cells #[.int .i64 0, .int .i64 0, .int .i64 0] 113 (0, 0)) := by
    have h := heap_alloc_new (w.alloc (.cells #[.int .i64 x.mode, .int .i64 x.round, .int .i64 x.slot, .int .i64 x.desc.node, .int .i64 x.desc.kind, .int .i64 x.desc.size, .int .i64 x.desc.dur, .bool x.desc.chg] 38)) (.cells #[.int .i64 0, .int .i64 0, .int .i64 0] 113 (0, 0))
    rw [World.size_alloc] at h
    exact h
  have HK := Lib.hid h0
  clear h0
  unfold slVal
  go_enter Try.func138, Try.ntmps138
  go_upto_region 1 with fail
  generalize (w.alloc (.cells #[.int .i64 x.mode, .int .i64 x.round, .int .i64 x.slot, .int .i64 x.desc.node, .int .i64 x.desc.kind, .int .i64 x.desc.size, .int .i64 x.desc.dur, .bool x.desc.chg] 38)).alloc (.cells #[.int .i64 0, .int .i64 0, .int .i64 0] 113) = w1 at HB HX HK ⊢
  obtain ⟨q0, q1, q2, q3, q4, q5, q6, q7⟩ := HX.out.all8
  have c0 := cell_of_row w1 _ 0 _ _ _ HK.out; have c1 := cell_of_row w1 _ 1 _ _ _ HK.out; have c2 := cell_of_row w1 _ 2 _ _ _ HK.out
  have f0 := frozen_of_row w1 _ 0 _ _ HK.out; have f1 := frozen_of_row w1 _ 1 _ _ HK.out; have f2 := frozen_of_row w1 _ 2 _ _ HK.out
  simp only [List.getElem?_toArray, List.getElem?_cons_zero, List.getElem?_cons_succ] at c0 c1 c2
  go_wp2_with fail
  clear c0 c1 c2 f0 f1 f2 q0 q1 q2 q3 q4 q5 q6 q7
  have k1 := heap_setCell_same w1 (w.heap.size + 1) 0 _ _ (.int .i64 x.mode) HK.out
  have k2 := heap_setCell_same _ (w.heap.size + 1) 1 _ _ (.int .i64 x.round) k1
  have k3 := heap_setCell_same _ (w.heap.size + 1) 2 _ _ (.int .i64 x.slot) k2
  have HBE := ((HB.out.setCell (p := ⟨w.heap.size + 1, 0, none⟩) (show w.heap.size ≤ w.heap.size + 1 by omega) (.int .i64 x.mode)).setCell (p := ⟨w.heap.size + 1, 1, none⟩) (show w.heap.size ≤ w.heap.size + 1 by omega) (.int .i64 x.round)).setCell (p := ⟨w.heap.size + 1, 2, none⟩) (show w.heap.size ≤ w.heap.size + 1 by omega) (.int .i64 x.slot)
  generalize ((w1.setCell ⟨w.heap.size + 1, 0, none⟩ (.int .i64 x.mode)).setCell ⟨w.heap.size + 1, 1, none⟩ (.int .i64 x.round)).setCell ⟨w.heap.size + 1, 2, none⟩ (.int .i64 x.slot) = w2 at k3 HBE ⊢
  have d0 : w2.cell? ⟨w.heap.size + 1, 0, none⟩ = some (.int .i64 x.mode) := by rw [cell_of_row _ _ 0 _ _ _ k3]; rfl
  have d1 : w2.cell? ⟨w.heap.size + 1, 1, none⟩ = some (.int .i64 x.round) := by rw [cell_of_row _ _ 1 _ _ _ k3]; rfl
  have d2 : w2.cell? ⟨w.heap.size + 1, 2, none⟩ = some (.int .i64 x.slot) := by rw [cell_of_row _ _ 2 _ _ _ k3]; rfl
  exact bodyPost_ret (v := keyV x.mode x.round x.slot) (by simp [keyV, results, Try.results138, go_sem, d0, d1, d2]) rfl ⟨rfl, HBE⟩

theorem slot_apart {w : World} {b n T : Nat} {f : Int → Int → Int → Option Ds} {x : Sl} (h : SlotMap w b n f) (h2 : SlBk T w b x) : False := by
  obtain ⟨D, ⟨es, clock, hb, -⟩, -⟩ := h
  have := h2.symm.trans hb
  cases this
/-! ### sentInSlots -/
set_option maxRecDepth 100000 in
set_option maxHeartbeats 2000000 in
set_option linter.unusedSimpArgs false in
theorem sentIn_any (ao : Option Addr) (n cap : Nat) (t : List Sl) (w : World) (hr : RdE w ao n t) (hn : n ≤ 1048576) (hwf : ∀ x ∈ t, wfE x) :
    Calls Try.prog 96 #[.slice ao n cap] w fun e w' => ∃ b, e = .returned (.map (some b)) ∧ w.heap.size ≤ b ∧ SlotMap w' b n (sent t) ∧ Below w.heap.size w w' := by
  have HL := Lib.hid hr.len
  have HR := Lib.hid hr
  have HWF := Lib.hid hwf
  have hmm := makeSlotMap
  have M0 := Lib.hid (slotMap_made w)
  have B0 := Lib.hid ((Below.refl w.heap.size w).alloc (Nat.le_refl _) (.map #[] 0))
  clear hr hwf
  go_enter Try.func96, Try.ntmps96
  go_wp2_with fail
  go_loopw [11] (fun i wr => ∃ k : Nat, k ≤ n ∧ i = .int .i64 k ∧ Hid (SlotMap wr w.heap.size k (sent (t.take k))) ∧ Hid (Below w.heap.size w wr)) (fun i _ => n - (intOf i).toNat)
  case atStart => exact ⟨0, Nat.zero_le _, rfl, M0.out, B0.out⟩
  case round =>
    clear M0 B0
    obtain ⟨k, hk, rfl, HM, HB⟩ := hrel
    by_cases hlt : k < n
    · obtain ⟨b, off, e0, hg, hx⟩ := HR.out.at hlt
      subst e0
      have hkt : k < t.length := by rw [HL.out]; exact hlt
      have HSN := Lib.hid (show sent (t.take (k + 1)) = updS (sent (t.take k)) (slOf t k).mode (slOf t k).round (slOf t k).slot (slOf t k).desc from by rw [slOf_get hkt, List.take_succ_eq_append_getElem hkt, sent_snoc])
      have HW := Lib.hid (HWF.out _ (slOf_mem hkt))
      have hxr := hx.below HB.out hg
      obtain ⟨x, hxe⟩ : ∃ x, x = slOf t k := ⟨_, rfl⟩
      rw [← hxe] at hxr HSN HW
      obtain ⟨q0, q1, q2, q3, q4, q5, q6, q7⟩ := hxr.all8
      have bal := (Below.refl wr.heap.size wr).alloc (Nat.le_refl _) (.cells #[.int .i64 x.mode, .int .i64 x.round, .int .i64 x.slot, .int .i64 x.desc.node, .int .i64 x.desc.kind, .int .i64 x.desc.size, .int .i64 x.desc.dur, .bool x.desc.chg] 38)
      have HX := Lib.hid (SlBk.new (T := 38) (x := x) wr)
      have HM1 := Lib.hid (HM.out.below bal)
      have HB1 := Lib.hid (below_two HB.out bal)
      clear hx hg hxe hkt bal
      go_upto_region 5 with fail
      clear q0 q1 q2 q3 q4 q5 q6 q7 hxr HM HB
      generalize wr.alloc (.cells #[.int .i64 x.mode, .int .i64 x.round, .int .i64 x.slot, .int .i64 x.desc.node, .int .i64 x.desc.kind, .int .i64 x.desc.size, .int .i64 x.desc.dur, .bool x.desc.chg] 38) = w1 at HX HM1 HB1 ⊢
      have HXW := Lib.hid (fun W (hW : Below w1.heap.size w1 W) => (HX.out.below hW HX.out.lt).all8)
      have HD := Lib.hid (show Below w1.heap.size w1 w1.drew from Below.drew (Below.refl _ _))
      have HKO := Lib.hid (fun W => keyOfS_any x W)
      unfold slVal at HKO
      refine wp_region_held_drew (S := fun w' => w'.cell? ⟨wr.heap.size, 0, none⟩ = some (Value.int .i64 x.mode) ∧ w'.cell? ⟨wr.heap.size, 1, none⟩ = some (Value.int .i64 x.round) ∧ w'.cell? ⟨wr.heap.size, 2, none⟩ = some (Value.int .i64 x.slot) ∧ w'.cell? ⟨wr.heap.size, 3, none⟩ = some (Value.int .i64 x.desc.node) ∧ w'.cell? ⟨wr.heap.size, 4, none⟩ = some (Value.int .i64 x.desc.kind) ∧ w'.cell? ⟨wr.heap.size, 5, none⟩ = some (Value.int .i64 x.desc.size) ∧ w'.cell? ⟨wr.heap.size, 6, none⟩ = some (Value.int .i64 x.desc.dur) ∧ w'.cell? ⟨wr.heap.size, 7, none⟩ = some (Value.bool x.desc.chg)) (by kernel_rfl) (HXW.out _ HD.out) (fun hHeld => ?_)
      generalize w1.drew = w2 at HD hHeld ⊢
      refine wpAnyH_take (i := 0) (v := ?_) rfl (by kernel_rfl) (by kernel_rfl) (by kernel_rfl) (fun _ _ _ h => h) (Or.inl ⟨by rfl, ?_⟩) (by assumption) ?_
      rotate_left
      · (intro w hSw; (try dsimp only at hSw); go_simp; (try with_reducible rfl))
      try simp only [List.getElem_toArray, List.getElem_cons_succ, List.getElem_cons_zero, Act.put, List.setIfInBounds_toArray, List.set_cons_zero, List.set_cons_succ]
      refine wpAnyH_take (i := 1) (v := ?_) rfl (by kernel_rfl) (by kernel_rfl) (by kernel_rfl) (fun _ _ _ h => h) (Or.inl ⟨by rfl, ?_⟩) (by assumption) ?_
      rotate_left
      · (intro w hSw; (try dsimp only at hSw); go_simp; (try with_reducible rfl))
      try simp only [List.getElem_toArray, List.getElem_cons_succ, List.getElem_cons_zero, Act.put, List.setIfInBounds_toArray, List.set_cons_zero, List.set_cons_succ]
      refine wpAnyH_take (i := 3) (v := ?_) rfl (by kernel_rfl) (by kernel_rfl) (by kernel_rfl) (fun _ _ _ h => h) (Or.inl ⟨by rfl, ?_⟩) (by assumption) ?_
      rotate_left
      · (intro w hSw; (try dsimp only at hSw); go_simp; (try with_reducible rfl))
      try simp only [List.getElem_toArray, List.getElem_cons_succ, List.getElem_cons_zero, Act.put, List.setIfInBounds_toArray, List.set_cons_zero, List.set_cons_succ]
      refine wpAnyH_take (i := 4) (v := ?_) rfl (by kernel_rfl) (by kernel_rfl) (by kernel_rfl) (fun _ _ _ h => h) (Or.inl ⟨by rfl, ?_⟩) (by assumption) ?_
      rotate_left
      · (intro w hSw; (try dsimp only at hSw); go_simp; (try with_reducible rfl))
      try simp only [List.getElem_toArray, List.getElem_cons_succ, List.getElem_cons_zero, Act.put, List.setIfInBounds_toArray, List.set_cons_zero, List.set_cons_succ]
      refine wpAnyH_ready (rs := [2]) (by kernel_rfl) (by simp) (AllReadyH.cons rfl (fun K hK => ?_) AllReadyH.nil)
      go_simp
      refine (HKO.out _).mono ?_
      rintro e w3 ⟨rfl, b3⟩
      have HD3 := Lib.hid (below_two HD.out b3); clear b3
      go_wp2_with fail
      refine hK.out _ _ ?_ (fun hHeld => ?_)
      · exact HXW.out _ HD3.out
      clear hK K
      try simp only [List.getElem_toArray, List.getElem_cons_succ, List.getElem_cons_zero, Act.put, List.setIfInBounds_toArray, List.set_cons_zero, List.set_cons_succ]
      refine wpAnyH_ready (rs := [5]) (by kernel_rfl) (by simp) (AllReadyH.cons rfl (fun K hK => ?_) AllReadyH.nil)
      refine storeS_op _ (.tmp 15) (.tmp 17) (.tmp 19) rfl w.heap.size k (sent (t.take k)) rfl (HM1.out.below HD3.out) (by omega) x.mode x.round x.slot x.desc rfl rfl HW.out ?_
      intro w4 m4 g4
      rw [← HSN.out] at m4
      have HM4 := Lib.hid m4
      have HB4 := Lib.hid ((below_two HB1.out HD3.out).grown g4 (below_two HB1.out HD3.out).size (fun q hq => by cases hq; exact Nat.le_refl _))
      have HX4 := Lib.hid ((HX.out.below HD3.out HX.out.lt).grown g4 (fun e => slot_apart (b := w.heap.size) HM1.out (by rw [← Option.some.inj e]; exact HX.out)))
      clear m4 g4
      refine hK.out _ _ ?_ (fun hHeld => ?_)
      · exact HX4.out.all8
      clear hK K
      try simp only [List.getElem_toArray, List.getElem_cons_succ, List.getElem_cons_zero, Act.put, List.setIfInBounds_toArray, List.set_cons_zero, List.set_cons_succ]
      refine wpAnyH_done (by kernel_rfl) ?_ _
      go_wp2_with fail
      go_roundw
      case rel => exact ⟨k + 1, by omega, by go_num, HM4, HB4⟩
      case measure => simp [intOf]; omega
    · have hkn : k = n := by omega
      subst hkn
      have ht : t.take k = t := List.take_of_length_le (by rw [HL.out]; exact Nat.le_refl _)
      rw [ht] at HM
      go_wp2_with fail
      go_ret
      exact ⟨_, rfl, Nat.le_refl _, HM.out, HB.out⟩
end

section
open Go.RowKit Go.Maps

set_option maxRecDepth 100000 in
set_option maxHeartbeats 2000000 in
theorem findSlotI_any (ao : Option Addr) (n cap : Nat) (t : List Sl) (m r s : Int) (w : World) (hr : RdE w ao n t) (hn : n ≤ 1048576) (hwf : wfk m r s) :
    Calls Try.prog 34 #[.slice ao n cap, .int .i64 m, .int .i64 r, .int .i64 s] w fun e w' => e = .returned (.tuple #[dsVal (findSlot t m r s).1, .int .i64 (findSlot t m r s).2]) ∧ Below w.heap.size w w' := by
  have b0 := (Below.refl w.heap.size w).alloc (Nat.le_refl _) (.cells #[.int .i64 0, .int .i64 0, .int .i64 0, .int .i64 0, .bool false] 36)
  have HIS := Lib.hid (isSlsI_any ao n cap t _ (hr.below b0) hn)
  have HV := Lib.hid (DescAt.new (T := 36) (n := 0) (a := 0) (z := 0) (u := 0) (c := false) w)
  have HB := Lib.hid b0
  have HR := Lib.hid (hr.below b0)
  clear hr b0
  rcases hi : isSls t with _ | _
  · have HF := Lib.hid (findSlot_no (m := m) (r := r) (s := s) hi)
    go_enter Try.func34, Try.ntmps34
    go_wp2_with fail
    refine HIS.out.mono ?_
    rintro e w1 ⟨rfl, b1⟩
    rw [hi]
    have V1 := HV.out.below b1 HV.out.lt
    have B1 := Lib.hid (below_two HB.out b1)
    have c0 := V1.c0; have c1 := V1.c1; have c2 := V1.c2; have c3 := V1.c3; have c4 := V1.c4
    have f0 := V1.f 0; have f1 := V1.f 1; have f2 := V1.f 2; have f3 := V1.f 3; have f4 := V1.f 4
    have HV1 := Lib.hid V1
    clear V1 b1 HIS
    go_wp2_with fail
    clear c0 c1 c2 c3 c4 f0 f1 f2 f3 f4
    rw [HF.out]
    change bodyPost _ _ _ _ _ (setDesc w1 w.heap.size 0 0 0 0 false)
    have VF := HV1.out.five 0 0 0 0 false
    have BF := B1.out.trans (below_desc (B := w.heap.size) (w := w1) (Nat.le_refl _) 0 0 0 0 false)
    generalize setDesc w1 w.heap.size 0 0 0 0 false = w5 at VF BF ⊢
    have e0 := VF.c0; have e1 := VF.c1; have e2 := VF.c2; have e3 := VF.c3; have e4 := VF.c4
    exact bodyPost_ret (v := .tuple #[dsVal Ds.zero, .int .i64 1]) (by simp [dsVal, Ds.zero, results, Try.results34, go_sem, e0, e1, e2, e3, e4]) rfl ⟨rfl, BF⟩
  have HSE := Lib.hid (fun W (hW : Below (w.alloc (.cells #[.int .i64 0, .int .i64 0, .int .i64 0, .int .i64 0, .bool false] 36)).heap.size (w.alloc (.cells #[.int .i64 0, .int .i64 0, .int .i64 0, .int .i64 0, .bool false] 36)) W) => sentIn_any ao n cap t W (HR.out.below hW) hn (wfE_all hi))
  rcases hs : sent t m r s with _ | d
  · have HF := Lib.hid (findSlot_none hi hs)
    go_enter Try.func34, Try.ntmps34
    go_wp2_with fail
    refine HIS.out.mono ?_
    rintro e w1 ⟨rfl, b1⟩
    rw [hi]
    have HC := Lib.hid (HSE.out _ b1)
    have HV1 := Lib.hid (HV.out.below b1 HV.out.lt)
    have HB1 := Lib.hid (below_two HB.out b1)
    clear b1 HIS HSE HR HV HB
    go_wp2_with fail
    refine HC.out.mono ?_
    rintro e w2 ⟨b, rfl, hb, hm, b2⟩
    have HM := Lib.hid hm
    have HV2 := Lib.hid (HV1.out.below b2 HV1.out.lt)
    have HB2 := Lib.hid (below_two HB1.out b2)
    have HVZ := Lib.hid (HV2.out.below ((Below.refl w2.heap.size w2).alloc (Nat.le_refl _) (.cells #[.int .i64 0, .int .i64 0, .int .i64 0, .int .i64 0, .bool false] 36)) HV2.out.lt)
    have HBZ := Lib.hid (HB2.out.alloc HB2.out.size (.cells #[.int .i64 0, .int .i64 0, .int .i64 0, .int .i64 0, .bool false] 36))
    have HVD := Lib.hid (fun n a z u c => HV2.out.below ((Below.refl w2.heap.size w2).alloc (Nat.le_refl _) (.cells #[.int .i64 n, .int .i64 a, .int .i64 z, .int .i64 u, .bool c] 36)) HV2.out.lt)
    have HBD := Lib.hid (fun n a z u c => HB2.out.alloc HB2.out.size (.cells #[.int .i64 n, .int .i64 a, .int .i64 z, .int .i64 u, .bool c] 36))
    clear hb hm b2 HC
    have c0 := HVZ.out.c0; have c1 := HVZ.out.c1; have c2 := HVZ.out.c2; have c3 := HVZ.out.c3; have c4 := HVZ.out.c4
    have f0 := HVZ.out.f 0; have f1 := HVZ.out.f 1; have f2 := HVZ.out.f 2; have f3 := HVZ.out.f 3; have f4 := HVZ.out.f 4
    go_wp2_with (at_lookup; refine lookS _ rfl (.tmp 18) (.tmp 22) rfl b n (sent t) rfl HM.out m r s rfl hwf ?_; rw [hs]; simp only [Option.getD, Option.isSome]; unfold dsVal Ds.zero; try dsimp only)
    clear c0 c1 c2 c3 c4 f0 f1 f2 f3 f4
    rw [HF.out]
    change bodyPost _ _ _ _ _ (setDesc (w2.alloc (.cells #[.int .i64 0, .int .i64 0, .int .i64 0, .int .i64 0, .bool false] 36)) w.heap.size 0 0 0 0 false)
    have VF := HVZ.out.five 0 0 0 0 false
    have BF := HBZ.out.trans (below_desc (B := w.heap.size) (w := w2.alloc (.cells #[.int .i64 0, .int .i64 0, .int .i64 0, .int .i64 0, .bool false] 36)) (Nat.le_refl _) 0 0 0 0 false)
    generalize setDesc (w2.alloc (.cells #[.int .i64 0, .int .i64 0, .int .i64 0, .int .i64 0, .bool false] 36)) w.heap.size 0 0 0 0 false = w5 at VF BF ⊢
    have e0 := VF.c0; have e1 := VF.c1; have e2 := VF.c2; have e3 := VF.c3; have e4 := VF.c4
    exact bodyPost_ret (v := .tuple #[dsVal Ds.zero, .int .i64 4]) (by simp [dsVal, Ds.zero, results, Try.results34, go_sem, e0, e1, e2, e3, e4]) rfl ⟨rfl, BF⟩
  · have HF := Lib.hid (findSlot_some hi hs)
    go_enter Try.func34, Try.ntmps34
    go_wp2_with fail
    refine HIS.out.mono ?_
    rintro e w1 ⟨rfl, b1⟩
    rw [hi]
    have HC := Lib.hid (HSE.out _ b1)
    have HV1 := Lib.hid (HV.out.below b1 HV.out.lt)
    have HB1 := Lib.hid (below_two HB.out b1)
    clear b1 HIS HSE HR HV HB
    go_wp2_with fail
    refine HC.out.mono ?_
    rintro e w2 ⟨b, rfl, hb, hm, b2⟩
    have HM := Lib.hid hm
    have HV2 := Lib.hid (HV1.out.below b2 HV1.out.lt)
    have HB2 := Lib.hid (below_two HB1.out b2)
    have HVZ := Lib.hid (HV2.out.below ((Below.refl w2.heap.size w2).alloc (Nat.le_refl _) (.cells #[.int .i64 0, .int .i64 0, .int .i64 0, .int .i64 0, .bool false] 36)) HV2.out.lt)
    have HBZ := Lib.hid (HB2.out.alloc HB2.out.size (.cells #[.int .i64 0, .int .i64 0, .int .i64 0, .int .i64 0, .bool false] 36))
    have HVD := Lib.hid (fun n a z u c => HV2.out.below ((Below.refl w2.heap.size w2).alloc (Nat.le_refl _) (.cells #[.int .i64 n, .int .i64 a, .int .i64 z, .int .i64 u, .bool c] 36)) HV2.out.lt)
    have HBD := Lib.hid (fun n a z u c => HB2.out.alloc HB2.out.size (.cells #[.int .i64 n, .int .i64 a, .int .i64 z, .int .i64 u, .bool c] 36))
    clear hb hm b2 HC
    have hvr := HVD.out d.node d.kind d.size d.dur d.chg
    have hvn := DescAt.new (T := 36) (n := d.node) (a := d.kind) (z := d.size) (u := d.dur) (c := d.chg) w2
    have hbr := HBD.out d.node d.kind d.size d.dur d.chg
    have HVR := Lib.hid hvr; have HBR := Lib.hid hbr
    have c0 := hvr.c0; have c1 := hvr.c1; have c2 := hvr.c2; have c3 := hvr.c3; have c4 := hvr.c4
    have f0 := hvr.f 0; have f1 := hvr.f 1; have f2 := hvr.f 2; have f3 := hvr.f 3; have f4 := hvr.f 4
    have q0 := hvn.c0; have q1 := hvn.c1; have q2 := hvn.c2; have q3 := hvn.c3; have q4 := hvn.c4
    clear hvr hvn hbr
    go_wp2_with (at_lookup; refine lookS _ rfl (.tmp 18) (.tmp 22) rfl b n (sent t) rfl HM.out m r s rfl hwf ?_; rw [hs]; simp only [Option.getD, Option.isSome]; unfold dsVal; try dsimp only)
    clear c0 c1 c2 c3 c4 f0 f1 f2 f3 f4 q0 q1 q2 q3 q4
    rw [HF.out]
    change bodyPost _ _ _ _ _ (setDesc (w2.alloc (.cells #[.int .i64 d.node, .int .i64 d.kind, .int .i64 d.size, .int .i64 d.dur, .bool d.chg] 36)) w.heap.size d.node d.kind d.size d.dur d.chg)
    have VF := HVR.out.five d.node d.kind d.size d.dur d.chg
    have BF := HBR.out.trans (below_desc (B := w.heap.size) (w := (w2.alloc (.cells #[.int .i64 d.node, .int .i64 d.kind, .int .i64 d.size, .int .i64 d.dur, .bool d.chg] 36))) (Nat.le_refl _) d.node d.kind d.size d.dur d.chg)
    generalize setDesc (w2.alloc (.cells #[.int .i64 d.node, .int .i64 d.kind, .int .i64 d.size, .int .i64 d.dur, .bool d.chg] 36)) w.heap.size d.node d.kind d.size d.dur d.chg = w5 at VF BF ⊢
    have e0 := VF.c0; have e1 := VF.c1; have e2 := VF.c2; have e3 := VF.c3; have e4 := VF.c4
    exact bodyPost_ret (v := .tuple #[dsVal d, .int .i64 0]) (by simp [dsVal, results, Try.results34, go_sem, e0, e1, e2, e3, e4]) rfl ⟨rfl, BF⟩
set_option maxRecDepth 100000 in
set_option maxHeartbeats 4000000 in
set_option linter.unusedSimpArgs false in
theorem codeIns_any (ao : Option Addr) (n cap : Nat) (t : List Sl) (x : Sl) (w : World) (hr : RdE w ao n t) (hn : n ≤ 1048576) :
    Calls Try.prog 89 #[.slice ao n cap, slVal x] w fun e w' => e = .returned (.int .i64 (codeIns t x)) ∧ Below w.heap.size w w' := by
  have b0 := (Below.refl w.heap.size w).alloc (Nat.le_refl _) (.cells #[.int .i64 x.mode, .int .i64 x.round, .int .i64 x.slot, .int .i64 x.desc.node, .int .i64 x.desc.kind, .int .i64 x.desc.size, .int .i64 x.desc.dur, .bool x.desc.chg] 38)
  have HIS := Lib.hid (isSlsI_any ao n cap t _ (hr.below b0) hn)
  have HX := Lib.hid (SlBk.new (T := 38) (x := x) w)
  have HL := Lib.hid hr.len
  have HB := Lib.hid b0
  have HR := Lib.hid (hr.below b0)
  have HI := Lib.hid (fun W => isSlI_any x W)
  unfold slVal at HI ⊢
  clear hr b0
  rcases hi : isSls t with _ | _
  · have HF := Lib.hid (show codeIns t x = 1 from by unfold codeIns; rw [if_pos hi])
    go_enter Try.func89, Try.ntmps89
    go_wp2_with fail
    refine HIS.out.mono ?_
    rintro e w1 ⟨rfl, b1⟩
    rw [hi]
    go_wp2_with fail
    go_ret
    rw [HF.out]
    exact ⟨rfl, below_two HB.out b1⟩
  rcases hx : isSl x with _ | _
  · have HF := Lib.hid (show codeIns t x = 2 from by unfold codeIns; rw [if_neg (by rw [hi]; simp), if_pos hx])
    go_enter Try.func89, Try.ntmps89
    go_wp2_with fail
    refine HIS.out.mono ?_
    rintro e w1 ⟨rfl, b1⟩
    rw [hi]
    obtain ⟨q0, q1, q2, q3, q4, q5, q6, q7⟩ := (HX.out.below b1 HX.out.lt).all8
    go_wp2_with fail
    refine (HI.out _).mono ?_
    rintro e w2 ⟨rfl, b2⟩
    rw [hx]
    go_wp2_with fail
    go_ret
    rw [HF.out]
    exact ⟨rfl, below_two (below_two HB.out b1) b2⟩
  have HSE := Lib.hid (fun W (hW : Below (w.alloc (.cells #[.int .i64 x.mode, .int .i64 x.round, .int .i64 x.slot, .int .i64 x.desc.node, .int .i64 x.desc.kind, .int .i64 x.desc.size, .int .i64 x.desc.dur, .bool x.desc.chg] 38)).heap.size (w.alloc (.cells #[.int .i64 x.mode, .int .i64 x.round, .int .i64 x.slot, .int .i64 x.desc.node, .int .i64 x.desc.kind, .int .i64 x.desc.size, .int .i64 x.desc.dur, .bool x.desc.chg] 38)) W) => sentIn_any ao n cap t W (HR.out.below hW) hn (wfE_all hi))
  have HKO := Lib.hid (fun W => keyOfS_any x W)
  unfold slVal at HKO
  have HW := Lib.hid (wfE_of hx)
  obtain ⟨c, hc⟩ : ∃ c, c = (sent t x.mode x.round x.slot).isSome := ⟨_, rfl⟩
  have HCI := Lib.hid (show codeIns t x = if c = true then 5 else if t.length = 120 then 3 else 0 from by unfold codeIns; rw [if_neg (by rw [hi]; simp), if_neg (by rw [hx]; simp), hc])
  have HCC := Lib.hid hc
  clear hc
  obtain ⟨dz, hdz⟩ : ∃ d, d = (sent t x.mode x.round x.slot).getD Ds.zero := ⟨_, rfl⟩
  have HDZ := Lib.hid hdz
  clear hdz
  go_enter Try.func89, Try.ntmps89
  go_wp2_with fail
  refine HIS.out.mono ?_
  rintro e w1 ⟨rfl, b1⟩
  rw [hi]
  have HX1 := Lib.hid (HX.out.below b1 HX.out.lt)
  have HB1 := Lib.hid b1
  clear b1 HX HR HIS
  obtain ⟨q0, q1, q2, q3, q4, q5, q6, q7⟩ := HX1.out.all8
  go_wp2_with fail
  refine (HI.out _).mono ?_
  rintro e w2 ⟨rfl, b2⟩
  rw [hx]
  have HX2 := Lib.hid (HX1.out.below b2 HX1.out.lt)
  have HB2 := Lib.hid (below_two HB1.out b2)
  clear b2 HX1 HB1 q0 q1 q2 q3 q4 q5 q6 q7 HI
  go_upto_region 5 with fail
  go_cut [6] (fun s6 wx => ∃ wy, wy = wx ∧ s6 = .bool c ∧ Hid (Below w.heap.size w wy))
  case first =>
    have HXW := Lib.hid (fun W (hW : Below w2.heap.size w2 W) => (HX2.out.below hW HX2.out.lt).all8)
    have HD0 := Lib.hid (show Below w2.heap.size w2 w2.drew from Below.drew (Below.refl _ _))
    refine wp_region_held_drew (S := fun w' => w'.cell? ⟨w.heap.size, 0, none⟩ = some (Value.int .i64 x.mode) ∧ w'.cell? ⟨w.heap.size, 1, none⟩ = some (Value.int .i64 x.round) ∧ w'.cell? ⟨w.heap.size, 2, none⟩ = some (Value.int .i64 x.slot) ∧ w'.cell? ⟨w.heap.size, 3, none⟩ = some (Value.int .i64 x.desc.node) ∧ w'.cell? ⟨w.heap.size, 4, none⟩ = some (Value.int .i64 x.desc.kind) ∧ w'.cell? ⟨w.heap.size, 5, none⟩ = some (Value.int .i64 x.desc.size) ∧ w'.cell? ⟨w.heap.size, 6, none⟩ = some (Value.int .i64 x.desc.dur) ∧ w'.cell? ⟨w.heap.size, 7, none⟩ = some (Value.bool x.desc.chg)) (by kernel_rfl) (HXW.out _ HD0.out) (fun hHeld => ?_)
    generalize w2.drew = w3 at HD0 hHeld ⊢
    refine wpAnyH_take (i := 0) (v := ?_) rfl (by kernel_rfl) (by kernel_rfl) (by kernel_rfl) (fun _ _ _ h => h) (Or.inl ⟨by rfl, ?_⟩) (by assumption) ?_
    rotate_left
    · (intro w hSw; (try dsimp only at hSw); go_simp; (try with_reducible rfl))
    try simp only [List.getElem_toArray, List.getElem_cons_succ, List.getElem_cons_zero, Act.put, List.setIfInBounds_toArray, List.set_cons_zero, List.set_cons_succ]
    refine wpAnyH_take (i := 2) (v := ?_) rfl (by kernel_rfl) (by kernel_rfl) (by kernel_rfl) (fun _ _ _ h => h) (Or.inl ⟨by rfl, ?_⟩) (by assumption) ?_
    rotate_left
    · (intro w hSw; (try dsimp only at hSw); go_simp; (try with_reducible rfl))
    try simp only [List.getElem_toArray, List.getElem_cons_succ, List.getElem_cons_zero, Act.put, List.setIfInBounds_toArray, List.set_cons_zero, List.set_cons_succ]
    refine wpAnyH_ready (rs := [1, 8]) (by kernel_rfl) (by simp) (AllReadyH.cons rfl (fun K hK => ?_) (AllReadyH.cons rfl (fun K hK => ?_) AllReadyH.nil))
    · skip
      go_simp
      refine (HSE.out _ (below_two HB2.out HD0.out)).mono ?_
      rintro e w11 ⟨bm, rfl, -, hm, b9⟩
      have HM11 := Lib.hid hm
      have HD11 := Lib.hid (below_two HD0.out b9)
      clear b9 hm
      go_wp2_with fail
      refine hK.out _ _ ?_ (fun hHeld => ?_)
      · exact HXW.out _ HD11.out
      clear hK K
      try simp only [List.getElem_toArray, List.getElem_cons_succ, List.getElem_cons_zero, Act.put, List.setIfInBounds_toArray, List.set_cons_zero, List.set_cons_succ]
      refine wpAnyH_ready (rs := [3, 8]) (by kernel_rfl) (by simp) (AllReadyH.cons rfl (fun K hK => ?_) (AllReadyH.cons rfl (fun K hK => ?_) AllReadyH.nil))
      · skip
        go_simp
        refine (HKO.out _).mono ?_
        rintro e w12 ⟨rfl, b9⟩
        have HM12 := Lib.hid (HM11.out.below b9)
        have HD12 := Lib.hid (below_two HD11.out b9)
        clear b9
        go_wp2_with fail
        refine hK.out _ _ ?_ (fun hHeld => ?_)
        · exact HXW.out _ HD12.out
        clear hK K
        try simp only [List.getElem_toArray, List.getElem_cons_succ, List.getElem_cons_zero, Act.put, List.setIfInBounds_toArray, List.set_cons_zero, List.set_cons_succ]
        refine wpAnyH_ready (rs := [4, 8]) (by kernel_rfl) (by simp) (AllReadyH.cons rfl (fun K hK => ?_) (AllReadyH.cons rfl (fun K hK => ?_) AllReadyH.nil))
        · skip
          refine lookS_op _ (.tmp 15) (.tmp 17) rfl bm n (sent t) rfl HM12.out x.mode x.round x.slot rfl HW.out ?_
          rw [← HCC.out, ← HDZ.out]
          unfold dsVal
          try dsimp only
          refine hK.out _ _ ?_ (fun hHeld => ?_)
          · exact HXW.out _ HD12.out
          clear hK K
          try simp only [List.getElem_toArray, List.getElem_cons_succ, List.getElem_cons_zero, Act.put, List.setIfInBounds_toArray, List.set_cons_zero, List.set_cons_succ]
          refine wpAnyH_take (i := 5) (v := ?_) rfl (by kernel_rfl) (by kernel_rfl) (by kernel_rfl) (fun _ _ _ h => h) (Or.inl ⟨by rfl, ?_⟩) (by assumption) ?_
          rotate_left
          · (intro w hSw; (try dsimp only at hSw); go_simp; (try with_reducible rfl))
          try simp only [List.getElem_toArray, List.getElem_cons_succ, List.getElem_cons_zero, Act.put, List.setIfInBounds_toArray, List.set_cons_zero, List.set_cons_succ]
          refine wpAnyH_take (i := 6) (v := ?_) rfl (by kernel_rfl) (by kernel_rfl) (by kernel_rfl) (fun _ _ _ h => h) (Or.inl ⟨by rfl, ?_⟩) (by assumption) ?_
          rotate_left
          · (intro w hSw; (try dsimp only at hSw); go_simp; (try with_reducible rfl))
          try simp only [List.getElem_toArray, List.getElem_cons_succ, List.getElem_cons_zero, Act.put, List.setIfInBounds_toArray, List.set_cons_zero, List.set_cons_succ]
          refine wpAnyH_take (i := 7) (v := ?_) rfl (by kernel_rfl) (by kernel_rfl) (by kernel_rfl) (fun _ _ _ h => h) (Or.inl ⟨by rfl, ?_⟩) (by assumption) ?_
          rotate_left
          · (intro w hSw; (try dsimp only at hSw); go_simp; (try with_reducible rfl))
          try simp only [List.getElem_toArray, List.getElem_cons_succ, List.getElem_cons_zero, Act.put, List.setIfInBounds_toArray, List.set_cons_zero, List.set_cons_succ]
          refine wpAnyH_ready (rs := [8]) (by kernel_rfl) (by simp) (AllReadyH.cons rfl (fun K hK => ?_) AllReadyH.nil)
          go_simp
          have b9 := (Below.refl w12.heap.size w12).alloc (Nat.le_refl _) (.cells #[.int .i64 0, .int .i64 0, .int .i64 0, .int .i64 0, .bool false] 36)
          have HV14 := Lib.hid (DescAt.new (T := 36) (n := 0) (a := 0) (z := 0) (u := 0) (c := false) w12)
          have HV14B : w2.heap.size ≤ w12.heap.size := HD12.out.size
          have HD14 := Lib.hid (below_two HD12.out b9)
          have HM14 := Lib.hid (HM12.out.below b9)
          clear b9
          refine hK.out _ _ ?_ (fun hHeld => ?_)
          · exact HXW.out _ HD14.out
          clear hK K
          try simp only [List.getElem_toArray, List.getElem_cons_succ, List.getElem_cons_zero, Act.put, List.setIfInBounds_toArray, List.set_cons_zero, List.set_cons_succ]
          generalize w12.alloc (.cells #[.int .i64 0, .int .i64 0, .int .i64 0, .int .i64 0, .bool false] 36) = w14 at HD14 HV14 HM14 hHeld ⊢
          have c0 := HV14.out.c0; have c1 := HV14.out.c1; have c2 := HV14.out.c2; have c3 := HV14.out.c3; have c4 := HV14.out.c4
          have f0 := HV14.out.f 0; have f1 := HV14.out.f 1; have f2 := HV14.out.f 2; have f3 := HV14.out.f 3; have f4 := HV14.out.f 4
          refine wpAnyH_ready (rs := [9]) (by kernel_rfl) (by simp) (AllReadyH.cons rfl (fun K hK => ?_) AllReadyH.nil)
          go_simp
          clear c0 c1 c2 c3 c4 f0 f1 f2 f3 f4
          change K _ (setDesc w14 w12.heap.size dz.node dz.kind dz.size dz.dur dz.chg)
          have HB15 := Lib.hid (HD14.out.trans (below_desc (B := w2.heap.size) (w := w14) (by have := HV14B; omega) dz.node dz.kind dz.size dz.dur dz.chg))
          generalize setDesc w14 w12.heap.size dz.node dz.kind dz.size dz.dur dz.chg = w15 at HB15 ⊢
          refine hK.out _ _ ?_ (fun hHeld => ?_)
          · exact HXW.out _ HB15.out
          clear hK K
          try simp only [List.getElem_toArray, List.getElem_cons_succ, List.getElem_cons_zero, Act.put, List.setIfInBounds_toArray, List.set_cons_zero, List.set_cons_succ]
          refine wpAnyH_take (i := 10) (v := ?_) rfl (by kernel_rfl) (by kernel_rfl) (by kernel_rfl) (fun _ _ _ h => h) (Or.inl ⟨by rfl, ?_⟩) (by assumption) ?_
          rotate_left
          · (intro w hSw; (try dsimp only at hSw); go_simp; (try with_reducible rfl))
          try simp only [List.getElem_toArray, List.getElem_cons_succ, List.getElem_cons_zero, Act.put, List.setIfInBounds_toArray, List.set_cons_zero, List.set_cons_succ]
          refine wpAnyH_done (by kernel_rfl) ?_ _
          have HBE := Lib.hid (below_two HB.out (below_two HB2.out HB15.out))
          go_wp2_with fail
          go_meet
          exact ⟨_, rfl, rfl, HBE⟩
        · skip
          go_simp
          have b9 := (Below.refl w12.heap.size w12).alloc (Nat.le_refl _) (.cells #[.int .i64 0, .int .i64 0, .int .i64 0, .int .i64 0, .bool false] 36)
          have HV16 := Lib.hid (DescAt.new (T := 36) (n := 0) (a := 0) (z := 0) (u := 0) (c := false) w12)
          have HV16B : w2.heap.size ≤ w12.heap.size := HD12.out.size
          have HD16 := Lib.hid (below_two HD12.out b9)
          have HM16 := Lib.hid (HM12.out.below b9)
          clear b9
          refine hK.out _ _ ?_ (fun hHeld => ?_)
          · exact HXW.out _ HD16.out
          clear hK K
          try simp only [List.getElem_toArray, List.getElem_cons_succ, List.getElem_cons_zero, Act.put, List.setIfInBounds_toArray, List.set_cons_zero, List.set_cons_succ]
          generalize w12.alloc (.cells #[.int .i64 0, .int .i64 0, .int .i64 0, .int .i64 0, .bool false] 36) = w16 at HD16 HV16 HM16 hHeld ⊢
          refine wpAnyH_ready (rs := [4]) (by kernel_rfl) (by simp) (AllReadyH.cons rfl (fun K hK => ?_) AllReadyH.nil)
          refine lookS_op _ (.tmp 15) (.tmp 17) rfl bm n (sent t) rfl HM16.out x.mode x.round x.slot rfl HW.out ?_
          rw [← HCC.out, ← HDZ.out]
          unfold dsVal
          try dsimp only
          refine hK.out _ _ ?_ (fun hHeld => ?_)
          · exact HXW.out _ HD16.out
          clear hK K
          try simp only [List.getElem_toArray, List.getElem_cons_succ, List.getElem_cons_zero, Act.put, List.setIfInBounds_toArray, List.set_cons_zero, List.set_cons_succ]
          refine wpAnyH_take (i := 5) (v := ?_) rfl (by kernel_rfl) (by kernel_rfl) (by kernel_rfl) (fun _ _ _ h => h) (Or.inl ⟨by rfl, ?_⟩) (by assumption) ?_
          rotate_left
          · (intro w hSw; (try dsimp only at hSw); go_simp; (try with_reducible rfl))
          try simp only [List.getElem_toArray, List.getElem_cons_succ, List.getElem_cons_zero, Act.put, List.setIfInBounds_toArray, List.set_cons_zero, List.set_cons_succ]
          refine wpAnyH_take (i := 6) (v := ?_) rfl (by kernel_rfl) (by kernel_rfl) (by kernel_rfl) (fun _ _ _ h => h) (Or.inl ⟨by rfl, ?_⟩) (by assumption) ?_
          rotate_left
          · (intro w hSw; (try dsimp only at hSw); go_simp; (try with_reducible rfl))
          try simp only [List.getElem_toArray, List.getElem_cons_succ, List.getElem_cons_zero, Act.put, List.setIfInBounds_toArray, List.set_cons_zero, List.set_cons_succ]
          refine wpAnyH_take (i := 7) (v := ?_) rfl (by kernel_rfl) (by kernel_rfl) (by kernel_rfl) (fun _ _ _ h => h) (Or.inl ⟨by rfl, ?_⟩) (by assumption) ?_
          rotate_left
          · (intro w hSw; (try dsimp only at hSw); go_simp; (try with_reducible rfl))
          try simp only [List.getElem_toArray, List.getElem_cons_succ, List.getElem_cons_zero, Act.put, List.setIfInBounds_toArray, List.set_cons_zero, List.set_cons_succ]
          have c0 := HV16.out.c0; have c1 := HV16.out.c1; have c2 := HV16.out.c2; have c3 := HV16.out.c3; have c4 := HV16.out.c4
          have f0 := HV16.out.f 0; have f1 := HV16.out.f 1; have f2 := HV16.out.f 2; have f3 := HV16.out.f 3; have f4 := HV16.out.f 4
          refine wpAnyH_ready (rs := [9]) (by kernel_rfl) (by simp) (AllReadyH.cons rfl (fun K hK => ?_) AllReadyH.nil)
          go_simp
          clear c0 c1 c2 c3 c4 f0 f1 f2 f3 f4
          change K _ (setDesc w16 w12.heap.size dz.node dz.kind dz.size dz.dur dz.chg)
          have HB18 := Lib.hid (HD16.out.trans (below_desc (B := w2.heap.size) (w := w16) (by have := HV16B; omega) dz.node dz.kind dz.size dz.dur dz.chg))
          generalize setDesc w16 w12.heap.size dz.node dz.kind dz.size dz.dur dz.chg = w18 at HB18 ⊢
          refine hK.out _ _ ?_ (fun hHeld => ?_)
          · exact HXW.out _ HB18.out
          clear hK K
          try simp only [List.getElem_toArray, List.getElem_cons_succ, List.getElem_cons_zero, Act.put, List.setIfInBounds_toArray, List.set_cons_zero, List.set_cons_succ]
          refine wpAnyH_take (i := 10) (v := ?_) rfl (by kernel_rfl) (by kernel_rfl) (by kernel_rfl) (fun _ _ _ h => h) (Or.inl ⟨by rfl, ?_⟩) (by assumption) ?_
          rotate_left
          · (intro w hSw; (try dsimp only at hSw); go_simp; (try with_reducible rfl))
          try simp only [List.getElem_toArray, List.getElem_cons_succ, List.getElem_cons_zero, Act.put, List.setIfInBounds_toArray, List.set_cons_zero, List.set_cons_succ]
          refine wpAnyH_done (by kernel_rfl) ?_ _
          have HBE := Lib.hid (below_two HB.out (below_two HB2.out HB18.out))
          go_wp2_with fail
          go_meet
          exact ⟨_, rfl, rfl, HBE⟩
      · skip
        go_simp
        have b9 := (Below.refl w11.heap.size w11).alloc (Nat.le_refl _) (.cells #[.int .i64 0, .int .i64 0, .int .i64 0, .int .i64 0, .bool false] 36)
        have HV19 := Lib.hid (DescAt.new (T := 36) (n := 0) (a := 0) (z := 0) (u := 0) (c := false) w11)
        have HV19B : w2.heap.size ≤ w11.heap.size := HD11.out.size
        have HD19 := Lib.hid (below_two HD11.out b9)
        have HM19 := Lib.hid (HM11.out.below b9)
        clear b9
        refine hK.out _ _ ?_ (fun hHeld => ?_)
        · exact HXW.out _ HD19.out
        clear hK K
        try simp only [List.getElem_toArray, List.getElem_cons_succ, List.getElem_cons_zero, Act.put, List.setIfInBounds_toArray, List.set_cons_zero, List.set_cons_succ]
        generalize w11.alloc (.cells #[.int .i64 0, .int .i64 0, .int .i64 0, .int .i64 0, .bool false] 36) = w19 at HD19 HV19 HM19 hHeld ⊢
        refine wpAnyH_ready (rs := [3]) (by kernel_rfl) (by simp) (AllReadyH.cons rfl (fun K hK => ?_) AllReadyH.nil)
        go_simp
        refine (HKO.out _).mono ?_
        rintro e w20 ⟨rfl, b9⟩
        have HM20 := Lib.hid (HM19.out.below b9)
        have HD20 := Lib.hid (below_two HD19.out b9)
        have HV20 := Lib.hid (HV19.out.below b9 HV19.out.lt)
        have HV20B := HV19B
        clear b9
        go_wp2_with fail
        refine hK.out _ _ ?_ (fun hHeld => ?_)
        · exact HXW.out _ HD20.out
        clear hK K
        try simp only [List.getElem_toArray, List.getElem_cons_succ, List.getElem_cons_zero, Act.put, List.setIfInBounds_toArray, List.set_cons_zero, List.set_cons_succ]
        refine wpAnyH_ready (rs := [4]) (by kernel_rfl) (by simp) (AllReadyH.cons rfl (fun K hK => ?_) AllReadyH.nil)
        refine lookS_op _ (.tmp 15) (.tmp 17) rfl bm n (sent t) rfl HM20.out x.mode x.round x.slot rfl HW.out ?_
        rw [← HCC.out, ← HDZ.out]
        unfold dsVal
        try dsimp only
        refine hK.out _ _ ?_ (fun hHeld => ?_)
        · exact HXW.out _ HD20.out
        clear hK K
        try simp only [List.getElem_toArray, List.getElem_cons_succ, List.getElem_cons_zero, Act.put, List.setIfInBounds_toArray, List.set_cons_zero, List.set_cons_succ]
        refine wpAnyH_take (i := 5) (v := ?_) rfl (by kernel_rfl) (by kernel_rfl) (by kernel_rfl) (fun _ _ _ h => h) (Or.inl ⟨by rfl, ?_⟩) (by assumption) ?_
        rotate_left
        · (intro w hSw; (try dsimp only at hSw); go_simp; (try with_reducible rfl))
        try simp only [List.getElem_toArray, List.getElem_cons_succ, List.getElem_cons_zero, Act.put, List.setIfInBounds_toArray, List.set_cons_zero, List.set_cons_succ]
        refine wpAnyH_take (i := 6) (v := ?_) rfl (by kernel_rfl) (by kernel_rfl) (by kernel_rfl) (fun _ _ _ h => h) (Or.inl ⟨by rfl, ?_⟩) (by assumption) ?_
        rotate_left
        · (intro w hSw; (try dsimp only at hSw); go_simp; (try with_reducible rfl))
        try simp only [List.getElem_toArray, List.getElem_cons_succ, List.getElem_cons_zero, Act.put, List.setIfInBounds_toArray, List.set_cons_zero, List.set_cons_succ]
        refine wpAnyH_take (i := 7) (v := ?_) rfl (by kernel_rfl) (by kernel_rfl) (by kernel_rfl) (fun _ _ _ h => h) (Or.inl ⟨by rfl, ?_⟩) (by assumption) ?_
        rotate_left
        · (intro w hSw; (try dsimp only at hSw); go_simp; (try with_reducible rfl))
        try simp only [List.getElem_toArray, List.getElem_cons_succ, List.getElem_cons_zero, Act.put, List.setIfInBounds_toArray, List.set_cons_zero, List.set_cons_succ]
        have c0 := HV20.out.c0; have c1 := HV20.out.c1; have c2 := HV20.out.c2; have c3 := HV20.out.c3; have c4 := HV20.out.c4
        have f0 := HV20.out.f 0; have f1 := HV20.out.f 1; have f2 := HV20.out.f 2; have f3 := HV20.out.f 3; have f4 := HV20.out.f 4
        refine wpAnyH_ready (rs := [9]) (by kernel_rfl) (by simp) (AllReadyH.cons rfl (fun K hK => ?_) AllReadyH.nil)
        go_simp
        clear c0 c1 c2 c3 c4 f0 f1 f2 f3 f4
        change K _ (setDesc w20 w11.heap.size dz.node dz.kind dz.size dz.dur dz.chg)
        have HB22 := Lib.hid (HD20.out.trans (below_desc (B := w2.heap.size) (w := w20) (by have := HV20B; omega) dz.node dz.kind dz.size dz.dur dz.chg))
        generalize setDesc w20 w11.heap.size dz.node dz.kind dz.size dz.dur dz.chg = w22 at HB22 ⊢
        refine hK.out _ _ ?_ (fun hHeld => ?_)
        · exact HXW.out _ HB22.out
        clear hK K
        try simp only [List.getElem_toArray, List.getElem_cons_succ, List.getElem_cons_zero, Act.put, List.setIfInBounds_toArray, List.set_cons_zero, List.set_cons_succ]
        refine wpAnyH_take (i := 10) (v := ?_) rfl (by kernel_rfl) (by kernel_rfl) (by kernel_rfl) (fun _ _ _ h => h) (Or.inl ⟨by rfl, ?_⟩) (by assumption) ?_
        rotate_left
        · (intro w hSw; (try dsimp only at hSw); go_simp; (try with_reducible rfl))
        try simp only [List.getElem_toArray, List.getElem_cons_succ, List.getElem_cons_zero, Act.put, List.setIfInBounds_toArray, List.set_cons_zero, List.set_cons_succ]
        refine wpAnyH_done (by kernel_rfl) ?_ _
        have HBE := Lib.hid (below_two HB.out (below_two HB2.out HB22.out))
        go_wp2_with fail
        go_meet
        exact ⟨_, rfl, rfl, HBE⟩
    · skip
      go_simp
      have b9 := (Below.refl w3.heap.size w3).alloc (Nat.le_refl _) (.cells #[.int .i64 0, .int .i64 0, .int .i64 0, .int .i64 0, .bool false] 36)
      have HV23 := Lib.hid (DescAt.new (T := 36) (n := 0) (a := 0) (z := 0) (u := 0) (c := false) w3)
      have HV23B : w2.heap.size ≤ w3.heap.size := HD0.out.size
      have HD23 := Lib.hid (below_two HD0.out b9)
      clear b9
      refine hK.out _ _ ?_ (fun hHeld => ?_)
      · exact HXW.out _ HD23.out
      clear hK K
      try simp only [List.getElem_toArray, List.getElem_cons_succ, List.getElem_cons_zero, Act.put, List.setIfInBounds_toArray, List.set_cons_zero, List.set_cons_succ]
      generalize w3.alloc (.cells #[.int .i64 0, .int .i64 0, .int .i64 0, .int .i64 0, .bool false] 36) = w23 at HD23 HV23  hHeld ⊢
      refine wpAnyH_ready (rs := [1]) (by kernel_rfl) (by simp) (AllReadyH.cons rfl (fun K hK => ?_) AllReadyH.nil)
      go_simp
      refine (HSE.out _ (below_two HB2.out HD23.out)).mono ?_
      rintro e w24 ⟨bm, rfl, -, hm, b9⟩
      have HM24 := Lib.hid hm
      have HD24 := Lib.hid (below_two HD23.out b9)
      have HV24 := Lib.hid (HV23.out.below b9 HV23.out.lt)
      have HV24B := HV23B
      clear b9 hm
      go_wp2_with fail
      refine hK.out _ _ ?_ (fun hHeld => ?_)
      · exact HXW.out _ HD24.out
      clear hK K
      try simp only [List.getElem_toArray, List.getElem_cons_succ, List.getElem_cons_zero, Act.put, List.setIfInBounds_toArray, List.set_cons_zero, List.set_cons_succ]
      refine wpAnyH_ready (rs := [3]) (by kernel_rfl) (by simp) (AllReadyH.cons rfl (fun K hK => ?_) AllReadyH.nil)
      go_simp
      refine (HKO.out _).mono ?_
      rintro e w25 ⟨rfl, b9⟩
      have HM25 := Lib.hid (HM24.out.below b9)
      have HD25 := Lib.hid (below_two HD24.out b9)
      have HV25 := Lib.hid (HV24.out.below b9 HV24.out.lt)
      have HV25B := HV24B
      clear b9
      go_wp2_with fail
      refine hK.out _ _ ?_ (fun hHeld => ?_)
      · exact HXW.out _ HD25.out
      clear hK K
      try simp only [List.getElem_toArray, List.getElem_cons_succ, List.getElem_cons_zero, Act.put, List.setIfInBounds_toArray, List.set_cons_zero, List.set_cons_succ]
      refine wpAnyH_ready (rs := [4]) (by kernel_rfl) (by simp) (AllReadyH.cons rfl (fun K hK => ?_) AllReadyH.nil)
      refine lookS_op _ (.tmp 15) (.tmp 17) rfl bm n (sent t) rfl HM25.out x.mode x.round x.slot rfl HW.out ?_
      rw [← HCC.out, ← HDZ.out]
      unfold dsVal
      try dsimp only
      refine hK.out _ _ ?_ (fun hHeld => ?_)
      · exact HXW.out _ HD25.out
      clear hK K
      try simp only [List.getElem_toArray, List.getElem_cons_succ, List.getElem_cons_zero, Act.put, List.setIfInBounds_toArray, List.set_cons_zero, List.set_cons_succ]
      refine wpAnyH_take (i := 5) (v := ?_) rfl (by kernel_rfl) (by kernel_rfl) (by kernel_rfl) (fun _ _ _ h => h) (Or.inl ⟨by rfl, ?_⟩) (by assumption) ?_
      rotate_left
      · (intro w hSw; (try dsimp only at hSw); go_simp; (try with_reducible rfl))
      try simp only [List.getElem_toArray, List.getElem_cons_succ, List.getElem_cons_zero, Act.put, List.setIfInBounds_toArray, List.set_cons_zero, List.set_cons_succ]
      refine wpAnyH_take (i := 6) (v := ?_) rfl (by kernel_rfl) (by kernel_rfl) (by kernel_rfl) (fun _ _ _ h => h) (Or.inl ⟨by rfl, ?_⟩) (by assumption) ?_
      rotate_left
      · (intro w hSw; (try dsimp only at hSw); go_simp; (try with_reducible rfl))
      try simp only [List.getElem_toArray, List.getElem_cons_succ, List.getElem_cons_zero, Act.put, List.setIfInBounds_toArray, List.set_cons_zero, List.set_cons_succ]
      refine wpAnyH_take (i := 7) (v := ?_) rfl (by kernel_rfl) (by kernel_rfl) (by kernel_rfl) (fun _ _ _ h => h) (Or.inl ⟨by rfl, ?_⟩) (by assumption) ?_
      rotate_left
      · (intro w hSw; (try dsimp only at hSw); go_simp; (try with_reducible rfl))
      try simp only [List.getElem_toArray, List.getElem_cons_succ, List.getElem_cons_zero, Act.put, List.setIfInBounds_toArray, List.set_cons_zero, List.set_cons_succ]
      have c0 := HV25.out.c0; have c1 := HV25.out.c1; have c2 := HV25.out.c2; have c3 := HV25.out.c3; have c4 := HV25.out.c4
      have f0 := HV25.out.f 0; have f1 := HV25.out.f 1; have f2 := HV25.out.f 2; have f3 := HV25.out.f 3; have f4 := HV25.out.f 4
      refine wpAnyH_ready (rs := [9]) (by kernel_rfl) (by simp) (AllReadyH.cons rfl (fun K hK => ?_) AllReadyH.nil)
      go_simp
      clear c0 c1 c2 c3 c4 f0 f1 f2 f3 f4
      change K _ (setDesc w25 w3.heap.size dz.node dz.kind dz.size dz.dur dz.chg)
      have HB27 := Lib.hid (HD25.out.trans (below_desc (B := w2.heap.size) (w := w25) (by have := HV25B; omega) dz.node dz.kind dz.size dz.dur dz.chg))
      generalize setDesc w25 w3.heap.size dz.node dz.kind dz.size dz.dur dz.chg = w27 at HB27 ⊢
      refine hK.out _ _ ?_ (fun hHeld => ?_)
      · exact HXW.out _ HB27.out
      clear hK K
      try simp only [List.getElem_toArray, List.getElem_cons_succ, List.getElem_cons_zero, Act.put, List.setIfInBounds_toArray, List.set_cons_zero, List.set_cons_succ]
      refine wpAnyH_take (i := 10) (v := ?_) rfl (by kernel_rfl) (by kernel_rfl) (by kernel_rfl) (fun _ _ _ h => h) (Or.inl ⟨by rfl, ?_⟩) (by assumption) ?_
      rotate_left
      · (intro w hSw; (try dsimp only at hSw); go_simp; (try with_reducible rfl))
      try simp only [List.getElem_toArray, List.getElem_cons_succ, List.getElem_cons_zero, Act.put, List.setIfInBounds_toArray, List.set_cons_zero, List.set_cons_succ]
      refine wpAnyH_done (by kernel_rfl) ?_ _
      have HBE := Lib.hid (below_two HB.out (below_two HB2.out HB27.out))
      go_wp2_with fail
      go_meet
      exact ⟨_, rfl, rfl, HBE⟩
  case rest =>
    obtain ⟨wx, rfl, rfl, HBE⟩ := hcut
    rcases c with _ | _
    · by_cases h120 : n = 120
      · have HF := Lib.hid (show codeIns t x = 3 from by rw [HCI.out, if_neg (by simp), if_pos (by rw [HL.out]; exact h120)])
        have hz : ((n : Int) == 120) = true := by rw [beq_iff_eq]; omega
        go_wp2_with fail
        go_ret
        rw [HF.out]
        exact ⟨rfl, HBE.out⟩
      · have HF := Lib.hid (show codeIns t x = 0 from by rw [HCI.out, if_neg (by simp), if_neg (by rw [HL.out]; exact h120)])
        have hz : ((n : Int) == 120) = false := by rw [beq_eq_false_iff_ne]; omega
        go_wp2_with fail
        go_ret
        rw [HF.out]
        exact ⟨rfl, HBE.out⟩
    · have HF := Lib.hid (show codeIns t x = 5 from by rw [HCI.out, if_pos rfl])
      go_wp2_with fail
      go_ret
      rw [HF.out]
      exact ⟨rfl, HBE.out⟩
end

section
open Go.RowKit Go.Maps

/-- The place of the first entry of a slot, or -1. -/
def placeS (t : List Sl) (m r s : Int) : Int := match t.findIdx? (sameSl m r s) with
  | some i => (i : Int)
  | none => -1
theorem placeS_at {t : List Sl} {m r s : Int} {k : Nat} (hk : k < t.length) (hall : ∀ j, j < k → sameSl m r s (slOf t j) = false) (h : sameSl m r s (slOf t k) = true) : placeS t m r s = (k : Int) := by
  have : t.findIdx? (sameSl m r s) = some k := by
    rw [List.findIdx?_eq_some_iff_getElem]
    refine ⟨hk, by rw [← slOf_get hk]; exact h, fun j hj => ?_⟩
    rw [← slOf_get (by omega), hall j hj]
    simp
  unfold placeS
  rw [this]
theorem placeS_none {t : List Sl} {m r s : Int} (hall : ∀ j, j < t.length → sameSl m r s (slOf t j) = false) : placeS t m r s = -1 := by
  have : t.findIdx? (sameSl m r s) = none := by
    rw [List.findIdx?_eq_none_iff]
    intro x hx
    obtain ⟨i, hi, rfl⟩ := mem_slOf hx
    exact hall i hi
  unfold placeS
  rw [this]
theorem placeS_case (t : List Sl) (m r s : Int) : (placeS t m r s = -1 ∧ t.find? (sameSl m r s) = none) ∨ ∃ k, k < t.length ∧ placeS t m r s = (k : Int) ∧ t.find? (sameSl m r s) = some (slOf t k) := by
  unfold placeS
  rcases h : t.findIdx? (sameSl m r s) with _ | k
  · refine .inl ⟨rfl, List.find?_eq_none.2 fun x hx => ?_⟩
    have := List.findIdx?_eq_none_iff.1 h x hx
    simp [this]
  · obtain ⟨hk, h1, h2⟩ := List.findIdx?_eq_some_iff_getElem.1 h
    refine .inr ⟨k, hk, rfl, ?_⟩
    rw [List.find?_eq_some_iff_getElem]
    refine ⟨by rw [slOf_get hk]; exact h1, k, hk, (slOf_get hk).symm, fun j hj => ?_⟩
    have := h2 j hj
    simpa using this
set_option maxRecDepth 100000 in
set_option maxHeartbeats 2000000 in
theorem l12Find_any (ao : Option Addr) (n cap : Nat) (t : List Sl) (m r s : Int) (w : World) (hr : RdE w ao n t) (hn : n ≤ 1048576) :
    Calls Try.prog 93 #[.slice ao n cap, .int .i64 m, .int .i64 r, .int .i64 s] w fun e w' => e = .returned (.int .i64 (placeS t m r s)) ∧ w = w' := by
  have HL := Lib.hid hr.len
  have HR := Lib.hid hr
  clear hr
  go_enter Try.func93, Try.ntmps93
  go_wp2
  go_loopw [9] (fun i wr => ∃ k : Nat, k ≤ n ∧ i = .int .i64 k ∧ wr = w ∧ Hid (∀ j, j < k → sameSl m r s (slOf t j) = false)) (fun i _ => n - (intOf i).toNat)
  case atStart => exact ⟨0, Nat.zero_le _, rfl, rfl, fun i h => absurd h (by omega)⟩
  case round =>
    obtain ⟨k, hk, rfl, rfl, hall⟩ := hrel
    by_cases hlt : k < n
    · obtain ⟨b, off, e0, hg, hx⟩ := HR.out.at hlt
      subst e0
      have HAT := Lib.hid (fun h => placeS_at (t := t) (m := m) (r := r) (s := s) (k := k) (by rw [HL.out]; exact hlt) hall.out h)
      have HNX := Lib.hid (fun (h : sameSl m r s (slOf t k) = false) j (hj : j < k + 1) => (by
        rcases Nat.lt_or_ge j k with hl | hl
        · exact hall.out j hl
        · rw [show j = k from by omega]; exact h : sameSl m r s (slOf t j) = false))
      obtain ⟨q0, q1, q2, -, -, -, -, -⟩ := hx.all8
      obtain ⟨x, hxe⟩ : ∃ x, x = slOf t k := ⟨_, rfl⟩
      rw [← hxe] at q0 q1 q2 HAT HNX
      clear hx hxe hall hg
      by_cases h0 : x.mode = m
      · by_cases h1 : x.round = r
        · by_cases h2 : x.slot = s
          · have HF := Lib.hid (HAT.out (by simp [sameSl, h0, h1, h2]))
            have t0 : (x.mode == m) = true := by simp [h0]
            have t1 : (x.round == r) = true := by simp [h1]
            have t2 : (x.slot == s) = true := by simp [h2]
            go_wp2
            go_ret
            rw [HF.out]
            exact ⟨rfl, rfl⟩
          · have HF := Lib.hid (HNX.out (by simp [sameSl, h2]))
            have t0 : (x.mode == m) = true := by simp [h0]
            have t1 : (x.round == r) = true := by simp [h1]
            have t2 : (x.slot == s) = false := by simp [h2]
            go_wp2
            go_roundw
            case rel => exact ⟨k + 1, by omega, by go_num, by first | rfl | trivial, HF⟩
            case measure => simp [intOf]; omega
        · have HF := Lib.hid (HNX.out (by simp [sameSl, h1]))
          have t0 : (x.mode == m) = true := by simp [h0]
          have t1 : (x.round == r) = false := by simp [h1]
          go_wp2
          go_roundw
          case rel => exact ⟨k + 1, by omega, by go_num, by first | rfl | trivial, HF⟩
          case measure => simp [intOf]; omega
      · have HF := Lib.hid (HNX.out (by simp [sameSl, h0]))
        have t0 : (x.mode == m) = false := by simp [h0]
        go_wp2
        go_roundw
        case rel => exact ⟨k + 1, by omega, by go_num, by first | rfl | trivial, HF⟩
        case measure => simp [intOf]; omega
    · have hkn : k = n := by omega
      subst hkn
      have HF := Lib.hid (placeS_none (t := t) (m := m) (r := r) (s := s) (by rw [HL.out]; exact hall.out))
      go_wp2
      go_ret
      rw [HF.out]
      exact ⟨rfl, rfl⟩
set_option maxRecDepth 100000 in
set_option maxHeartbeats 2000000 in
theorem findSlotS_any (ao : Option Addr) (n cap : Nat) (t : List Sl) (m r s : Int) (w : World) (hr : RdE w ao n t) (hn : n ≤ 1048576) :
    Calls Try.prog 37 #[.slice ao n cap, .int .i64 m, .int .i64 r, .int .i64 s] w fun e w' => e = .returned (.tuple #[dsVal (findSlot t m r s).1, .int .i64 (findSlot t m r s).2]) ∧ Below w.heap.size w w' := by
  have b0 := (Below.refl w.heap.size w).alloc (Nat.le_refl _) (.cells #[.int .i64 0, .int .i64 0, .int .i64 0, .int .i64 0, .bool false] 36)
  have HIS := Lib.hid (isSlsS_any ao n cap t _ (hr.below b0) hn)
  have HV := Lib.hid (DescAt.new (T := 36) (n := 0) (a := 0) (z := 0) (u := 0) (c := false) w)
  have HB := Lib.hid b0
  have HR := Lib.hid (hr.below b0)
  have HL := Lib.hid hr.len
  clear hr b0
  rcases hi : isSls t with _ | _
  · have HF := Lib.hid (findSlot_no (m := m) (r := r) (s := s) hi)
    go_enter Try.func37, Try.ntmps37
    go_wp2_with fail
    refine HIS.out.mono ?_
    rintro e w1 ⟨rfl, b1⟩
    rw [hi]
    have V1 := HV.out.below b1 HV.out.lt
    have B1 := Lib.hid (below_two HB.out b1)
    have c0 := V1.c0; have c1 := V1.c1; have c2 := V1.c2; have c3 := V1.c3; have c4 := V1.c4
    have f0 := V1.f 0; have f1 := V1.f 1; have f2 := V1.f 2; have f3 := V1.f 3; have f4 := V1.f 4
    have HV1 := Lib.hid V1
    clear V1 b1 HIS
    go_wp2_with fail
    clear c0 c1 c2 c3 c4 f0 f1 f2 f3 f4
    rw [HF.out]
    change bodyPost _ _ _ _ _ (setDesc w1 w.heap.size 0 0 0 0 false)
    have VF := HV1.out.five 0 0 0 0 false
    have BF := B1.out.trans (below_desc (B := w.heap.size) (w := w1) (Nat.le_refl _) 0 0 0 0 false)
    generalize setDesc w1 w.heap.size 0 0 0 0 false = w5 at VF BF ⊢
    have e0 := VF.c0; have e1 := VF.c1; have e2 := VF.c2; have e3 := VF.c3; have e4 := VF.c4
    exact bodyPost_ret (v := .tuple #[dsVal Ds.zero, .int .i64 1]) (by simp [dsVal, Ds.zero, results, Try.results37, go_sem, e0, e1, e2, e3, e4]) rfl ⟨rfl, BF⟩
  have HFI := Lib.hid (fun W (hW : Below (w.alloc (.cells #[.int .i64 0, .int .i64 0, .int .i64 0, .int .i64 0, .bool false] 36)).heap.size (w.alloc (.cells #[.int .i64 0, .int .i64 0, .int .i64 0, .int .i64 0, .bool false] 36)) W) => l12Find_any ao n cap t m r s W (HR.out.below hW) hn)
  rcases placeS_case t m r s with ⟨hp, hf⟩ | ⟨k, hk, hp, hf⟩
  · have HF := Lib.hid (show findSlot t m r s = (Ds.zero, 4) from by unfold findSlot; rw [if_neg (by rw [hi]; simp), hf])
    rw [hp] at HFI
    go_enter Try.func37, Try.ntmps37
    go_wp2_with fail
    refine HIS.out.mono ?_
    rintro e w1 ⟨rfl, b1⟩
    rw [hi]
    have HFC := Lib.hid (HFI.out _ b1)
    have V1 := HV.out.below b1 HV.out.lt
    have B1 := Lib.hid (below_two HB.out b1)
    have c0 := V1.c0; have c1 := V1.c1; have c2 := V1.c2; have c3 := V1.c3; have c4 := V1.c4
    have f0 := V1.f 0; have f1 := V1.f 1; have f2 := V1.f 2; have f3 := V1.f 3; have f4 := V1.f 4
    have HV1 := Lib.hid V1
    clear V1 b1 HIS HFI
    go_wp2_with fail
    refine HFC.out.mono ?_
    rintro e w2 ⟨rfl, rfl⟩
    go_wp2_with fail
    clear c0 c1 c2 c3 c4 f0 f1 f2 f3 f4
    rw [HF.out]
    change bodyPost _ _ _ _ _ (setDesc w1 w.heap.size 0 0 0 0 false)
    have VF := HV1.out.five 0 0 0 0 false
    have BF := B1.out.trans (below_desc (B := w.heap.size) (w := w1) (Nat.le_refl _) 0 0 0 0 false)
    generalize setDesc w1 w.heap.size 0 0 0 0 false = w5 at VF BF ⊢
    have e0 := VF.c0; have e1 := VF.c1; have e2 := VF.c2; have e3 := VF.c3; have e4 := VF.c4
    exact bodyPost_ret (v := .tuple #[dsVal Ds.zero, .int .i64 4]) (by simp [dsVal, Ds.zero, results, Try.results37, go_sem, e0, e1, e2, e3, e4]) rfl ⟨rfl, BF⟩
  · have HF := Lib.hid (show findSlot t m r s = ((slOf t k).desc, 0) from by unfold findSlot; rw [if_neg (by rw [hi]; simp), hf])
    rw [hp] at HFI
    rw [HL.out] at hk
    obtain ⟨b, off, e0, hg, hx⟩ := HR.out.at hk
    subst e0
    generalize slOf t k = x at hx HF
    have hkn : ¬ (k : Int) < 0 := by omega
    have HX := Lib.hid hx; have HG := Lib.hid hg
    clear hx hg
    go_enter Try.func37, Try.ntmps37
    go_wp2_with fail
    refine HIS.out.mono ?_
    rintro e w1 ⟨rfl, b1⟩
    rw [hi]
    have HFC := Lib.hid (HFI.out _ b1)
    have V1 := HV.out.below b1 HV.out.lt
    have B1 := Lib.hid (below_two HB.out b1)
    obtain ⟨-, -, -, q3, q4, q5, q6, q7⟩ := (HX.out.below b1 HG.out).all8
    have c0 := V1.c0; have c1 := V1.c1; have c2 := V1.c2; have c3 := V1.c3; have c4 := V1.c4
    have f0 := V1.f 0; have f1 := V1.f 1; have f2 := V1.f 2; have f3 := V1.f 3; have f4 := V1.f 4
    have HV1 := Lib.hid V1
    clear V1 b1 HIS HFI
    go_wp2_with fail
    refine HFC.out.mono ?_
    rintro e w2 ⟨rfl, rfl⟩
    go_wp2_with fail
    clear c0 c1 c2 c3 c4 f0 f1 f2 f3 f4 q3 q4 q5 q6 q7
    rw [HF.out]
    change bodyPost _ _ _ _ _ (setDesc w1 w.heap.size x.desc.node x.desc.kind x.desc.size x.desc.dur x.desc.chg)
    have VF := HV1.out.five x.desc.node x.desc.kind x.desc.size x.desc.dur x.desc.chg
    have BF := B1.out.trans (below_desc (B := w.heap.size) (w := w1) (Nat.le_refl _) x.desc.node x.desc.kind x.desc.size x.desc.dur x.desc.chg)
    generalize setDesc w1 w.heap.size x.desc.node x.desc.kind x.desc.size x.desc.dur x.desc.chg = w5 at VF BF ⊢
    have e0 := VF.c0; have e1 := VF.c1; have e2 := VF.c2; have e3 := VF.c3; have e4 := VF.c4
    exact bodyPost_ret (v := .tuple #[dsVal x.desc, .int .i64 0]) (by simp [dsVal, results, Try.results37, go_sem, e0, e1, e2, e3, e4]) rfl ⟨rfl, BF⟩
set_option maxRecDepth 100000 in
set_option maxHeartbeats 2000000 in
theorem slotsOfNodeI_any (ao : Option Addr) (n cap : Nat) (t : List Sl) (nd : Int) (w : World) (hr : RdE w ao n t) (hn : n ≤ 1048576) :
    Calls Try.prog 35 #[.slice ao n cap, .int .i64 nd] w (Makes2 2 w (slotsOfNode t nd).1 (slotsOfNode t nd).2) := by
  have HIS := Lib.hid (isSlsI_any ao n cap t w hr hn)
  have HBL := Lib.hid (fun b off (e : ao = some ⟨b, off, none⟩) (h0 : 0 < n) => (by obtain ⟨b', off', e', hb, -⟩ := hr.at h0; cases e.symm.trans e'; exact hb : b < w.heap.size))
  have HL := Lib.hid hr.len
  have HR := Lib.hid hr
  clear hr
  rcases hi : isSls t with _ | _
  · rw [show slotsOfNode t nd = ([], 1) from by unfold slotsOfNode; rw [if_pos hi]]
    go_enter Try.func35, Try.ntmps35
    go_wp2_with fail
    refine HIS.out.mono ?_
    rintro e w1 ⟨rfl, b1⟩
    rw [hi]
    go_wp2_with fail
    go_ret2
    exact ⟨_, rfl, Own.nil_, b1⟩
  rw [show slotsOfNode t nd = (nodeTo t nd t.length, 0) from by unfold slotsOfNode; rw [if_neg (by rw [hi]; simp)]]
  rw [HL.out]
  have HN := Lib.hid (show n ≤ 120 from by have := (isSls_iff.1 hi).1; have := HL.out; omega)
  go_enter Try.func35, Try.ntmps35
  go_wp2_with fail
  refine HIS.out.mono ?_
  rintro e w1 ⟨rfl, b1⟩
  rw [hi]
  have HB1 := Lib.hid b1
  have HR1 := Lib.hid (HR.out.below b1)
  clear b1 HIS HR
  have o0 : Own 2 w1 w.heap.size (.slice none 0 0) (nodeTo t nd 0) := Own.nil_
  have HO0 := Lib.hid o0; clear o0
  go_wp2_with fail
  go_loopw [6, 14] (fun s i wr => ∃ (k : Nat) (v : Value), k ≤ n ∧ v = s ∧ i = .int .i64 k ∧ Hid (Own 2 wr w.heap.size v (nodeTo t nd k)) ∧ Hid (Below w.heap.size w wr) ∧ Hid (RdE wr ao n t)) (fun _ i _ => n - (intOf i).toNat)
  case atStart => exact ⟨0, _, Nat.zero_le _, rfl, rfl, HO0.out, HB1.out, HR1.out⟩
  case round =>
    obtain ⟨k, v, hk, rfl, rfl, HO, HB, HRK⟩ := hrel
    by_cases hlt : k < n
    · obtain ⟨b, off, e0, hg, hx⟩ := HRK.out.at hlt
      subst e0
      have HSU := Lib.hid (nodeTo_succ t nd k)
      have HLE := Lib.hid (show (nodeTo t nd k).length ≤ 120 from by unfold nodeTo; rw [List.length_map]; have := List.length_filter_le (fun i => decide ((slOf t i).desc.node = nd)) (List.range k); rw [List.length_range] at this; have := HN.out; omega)
      obtain ⟨x, hxe⟩ : ∃ x, x = slOf t k := ⟨_, rfl⟩
      rw [← hxe] at hx HSU
      obtain ⟨q0, q1, q2, q3, q4, q5, q6, q7⟩ := hx.all8
      have hk120 : k ≤ 120 := by have := HN.out; omega
      clear hxe
      have bal := (Below.refl wr.heap.size wr).alloc (Nat.le_refl _) (.cells #[.int .i64 x.mode, .int .i64 x.round, .int .i64 x.slot, .int .i64 x.desc.node, .int .i64 x.desc.kind, .int .i64 x.desc.size, .int .i64 x.desc.dur, .bool x.desc.chg] 38)
      have HX1 := Lib.hid (SlBk.new (T := 38) (x := x) wr)
      have HO1 := Lib.hid (HO.out.below bal)
      have HB2 := Lib.hid (below_two HB.out bal)
      have HR2 := Lib.hid (HRK.out.below bal)
      clear bal HO HB HRK hx
      go_upto_region 7 with fail
      clear q0 q1 q2 q3 q4 q5 q6 q7
      generalize wr.alloc (.cells #[.int .i64 x.mode, .int .i64 x.round, .int .i64 x.slot, .int .i64 x.desc.node, .int .i64 x.desc.kind, .int .i64 x.desc.size, .int .i64 x.desc.dur, .bool x.desc.chg] 38) = w2 at HX1 HO1 HB2 HR2 ⊢
      obtain ⟨q0, q1, q2, q3, q4, q5, q6, q7⟩ := HX1.out.all8
      by_cases hnd : x.desc.node = nd
      · have ht : (x.desc.node == nd) = true := by simp [hnd]
        have HF := Lib.hid (show nodeTo t nd (k + 1) = nodeTo t nd k ++ [(k : Int)] from by rw [HSU.out, if_pos hnd])
        have HOA := Lib.hid (HO1.out.below ((Below.refl w2.heap.size w2).alloc (Nat.le_refl _) (.cells #[.int .i64 (k : Int)] 2)))
        have HBA := Lib.hid (HB2.out.alloc HB2.out.size (.cells #[.int .i64 (k : Int)] 2))
        have HRA := Lib.hid (HR2.out.below ((Below.refl w2.heap.size w2).alloc (Nat.le_refl _) (.cells #[.int .i64 (k : Int)] 2)))
        go_wp2_with (at_builtin; go_loud (refine append_list _ rfl (.tmp 24) (.tmp 26) rfl w.heap.size Try.underlying26 info64 v (nodeTo t nd k) rfl HOA.out _ 1 _ [(k : Int)] rfl (rd_one _ _ _) (by have := HLE.out; omega) HBA.out.size ?_); intro v5 w5 o5 b5)
        rw [← HF.out] at o5
        have HO5 := Lib.hid o5
        have HB5 := Lib.hid (HBA.out.trans b5)
        have HR5 := Lib.hid (HRA.out.below2 b5 (fun b' off' e => HBL.out b' off' e (by omega)))
        clear o5 b5 q0 q1 q2 q3 q4 q5 q6 q7
        go_wp2_with fail
        go_roundw
        case rel => exact ⟨k + 1, v5, by omega, rfl, by go_num, HO5, HB5, HR5⟩
        case measure => simp [intOf]; omega
      · have ht : (x.desc.node == nd) = false := by simp [hnd]
        have HF := Lib.hid (show nodeTo t nd (k + 1) = nodeTo t nd k from by rw [HSU.out, if_neg hnd])
        rw [← HF.out] at HO1
        go_wp2_with fail
        clear q0 q1 q2 q3 q4 q5 q6 q7
        go_roundw
        case rel => exact ⟨k + 1, v, by omega, rfl, by go_num, HO1, HB2, HR2⟩
        case measure => simp [intOf]; omega
    · have hkn : k = n := by omega
      subst hkn
      go_wp2_with fail
      go_ret2
      exact ⟨v, rfl, HO.out, HB.out⟩
set_option maxRecDepth 100000 in
set_option maxHeartbeats 2000000 in
theorem slotsOfNodeS_any (ao : Option Addr) (n cap : Nat) (t : List Sl) (nd : Int) (w : World) (hr : RdE w ao n t) (hn : n ≤ 1048576) :
    Calls Try.prog 39 #[.slice ao n cap, .int .i64 nd] w (Makes2 2 w (slotsOfNode t nd).1 (slotsOfNode t nd).2) := by
  have HIS := Lib.hid (isSlsS_any ao n cap t w hr hn)
  have HBL := Lib.hid (fun b off (e : ao = some ⟨b, off, none⟩) (h0 : 0 < n) => (by obtain ⟨b', off', e', hb, -⟩ := hr.at h0; cases e.symm.trans e'; exact hb : b < w.heap.size))
  have HL := Lib.hid hr.len
  have HR := Lib.hid hr
  clear hr
  rcases hi : isSls t with _ | _
  · rw [show slotsOfNode t nd = ([], 1) from by unfold slotsOfNode; rw [if_pos hi]]
    go_enter Try.func39, Try.ntmps39
    go_wp2_with fail
    refine HIS.out.mono ?_
    rintro e w1 ⟨rfl, b1⟩
    rw [hi]
    go_wp2_with fail
    go_ret2
    exact ⟨_, rfl, Own.nil_, b1⟩
  rw [show slotsOfNode t nd = (nodeTo t nd t.length, 0) from by unfold slotsOfNode; rw [if_neg (by rw [hi]; simp)]]
  rw [HL.out]
  have HN := Lib.hid (show n ≤ 120 from by have := (isSls_iff.1 hi).1; have := HL.out; omega)
  go_enter Try.func39, Try.ntmps39
  go_wp2_with fail
  refine HIS.out.mono ?_
  rintro e w1 ⟨rfl, b1⟩
  rw [hi]
  have HB1 := Lib.hid b1
  have HR1 := Lib.hid (HR.out.below b1)
  clear b1 HIS HR
  have o0 : Own 2 (w1.alloc (.cells #[] 2)) w.heap.size (.slice (some ⟨w1.heap.size, 0, none⟩) 0 0) (nodeTo t nd 0) := Own.of_alloc_nil HB1.out.size
  have HO0 := Lib.hid o0; clear o0
  have HB0 := Lib.hid (HB1.out.alloc HB1.out.size (.cells #[] 2))
  have HR0 := Lib.hid (HR1.out.below ((Below.refl w1.heap.size w1).alloc (Nat.le_refl _) (.cells #[] 2)))
  go_wp2_with fail
  go_loopw [6, 7] (fun s i wr => ∃ (k : Nat) (v : Value), k ≤ n ∧ v = s ∧ i = .int .i64 k ∧ Hid (Own 2 wr w.heap.size v (nodeTo t nd k)) ∧ Hid (Below w.heap.size w wr) ∧ Hid (RdE wr ao n t)) (fun _ i _ => n - (intOf i).toNat)
  case atStart => exact ⟨0, _, Nat.zero_le _, rfl, rfl, HO0.out, HB0.out, HR0.out⟩
  case round =>
    obtain ⟨k, v, hk, rfl, rfl, HO, HB, HRK⟩ := hrel
    by_cases hlt : k < n
    · obtain ⟨b, off, e0, hg, hx⟩ := HRK.out.at hlt
      subst e0
      have HSU := Lib.hid (nodeTo_succ t nd k)
      have HLE := Lib.hid (show (nodeTo t nd k).length ≤ 120 from by unfold nodeTo; rw [List.length_map]; have := List.length_filter_le (fun i => decide ((slOf t i).desc.node = nd)) (List.range k); rw [List.length_range] at this; have := HN.out; omega)
      obtain ⟨x, hxe⟩ : ∃ x, x = slOf t k := ⟨_, rfl⟩
      rw [← hxe] at hx HSU
      obtain ⟨q0, q1, q2, q3, q4, q5, q6, q7⟩ := hx.all8
      have hk120 : k ≤ 120 := by have := HN.out; omega
      clear hxe
      have HO1 := HO; have HB2 := HB; have HR2 := HRK
      clear HO HB HRK hx
      generalize wr = w2 at HO1 HB2 HR2 q0 q1 q2 q3 q4 q5 q6 q7 ⊢
      by_cases hnd : x.desc.node = nd
      · have ht : (x.desc.node == nd) = true := by simp [hnd]
        have HF := Lib.hid (show nodeTo t nd (k + 1) = nodeTo t nd k ++ [(k : Int)] from by rw [HSU.out, if_pos hnd])
        have HOA := Lib.hid (HO1.out.below ((Below.refl w2.heap.size w2).alloc (Nat.le_refl _) (.cells #[.int .i64 (k : Int)] 2)))
        have HBA := Lib.hid (HB2.out.alloc HB2.out.size (.cells #[.int .i64 (k : Int)] 2))
        have HRA := Lib.hid (HR2.out.below ((Below.refl w2.heap.size w2).alloc (Nat.le_refl _) (.cells #[.int .i64 (k : Int)] 2)))
        go_wp2_with (at_builtin; go_loud (refine append_list _ rfl (.tmp 26) (.tmp 28) rfl w.heap.size Try.underlying26 info64 v (nodeTo t nd k) rfl HOA.out _ 1 _ [(k : Int)] rfl (rd_one _ _ _) (by have := HLE.out; omega) HBA.out.size ?_); intro v5 w5 o5 b5)
        rw [← HF.out] at o5
        have HO5 := Lib.hid o5
        have HB5 := Lib.hid (HBA.out.trans b5)
        have HR5 := Lib.hid (HRA.out.below2 b5 (fun b' off' e => HBL.out b' off' e (by omega)))
        clear o5 b5 q0 q1 q2 q3 q4 q5 q6 q7
        go_wp2_with fail
        go_roundw
        case rel => exact ⟨k + 1, v5, by omega, rfl, by go_num, HO5, HB5, HR5⟩
        case measure => simp [intOf]; omega
      · have ht : (x.desc.node == nd) = false := by simp [hnd]
        have HF := Lib.hid (show nodeTo t nd (k + 1) = nodeTo t nd k from by rw [HSU.out, if_neg hnd])
        rw [← HF.out] at HO1
        go_wp2_with fail
        clear q0 q1 q2 q3 q4 q5 q6 q7
        go_roundw
        case rel => exact ⟨k + 1, v, by omega, rfl, by go_num, HO1, HB2, HR2⟩
        case measure => simp [intOf]; omega
    · have hkn : k = n := by omega
      subst hkn
      go_wp2_with fail
      go_ret2
      exact ⟨v, rfl, HO.out, HB.out⟩
end
end Go.Proofs.Ytggnoeeaoligdaa
