/-
  Contracts of the program's, the model's and the laws' functions, and plain mathematics, on which a proof of this claim stands (part N).
-/
import Derived.Laws.StructEq
import Derived.Lib.SlicesS
import Derived.BigQuiet
import Derived.Deep.RegionHeld3
import Derived.Deep.DeepCutAuto
import Derived.Test.YtfoflfmpbbpbgaaPqA
namespace Go.Proofs.Ytfoflfmpbbpbgaa
section
open Go.RowKit
theorem eqNode_yes (x : Nd) (w : World) : Calls Try.prog 18 #[ndVal x, ndVal x] w fun e w' => e = .returned (.bool true) ∧ Below w.heap.size w w' := by
  unfold ndVal
  have h0 : (x.id != x.id) = false := by simp
  have h2 : (x.drift != x.drift) = false := by simp
  have h3 : (x.pas != x.pas) = false := by simp
  go_enter Try.func18, Try.ntmps18
  go_wp2
  go_ret
  exact ⟨rfl, ((Below.refl _ _).alloc (Nat.le_refl _) _).alloc (by simp) _⟩
end

section
open Go.RowKit
def setNd (w : World) (b off : Nat) (x : Nd) : World := (((w.setCell ⟨b, off, none⟩ (.int .i64 x.id)).setCell ⟨b, off + 1, none⟩ (.string x.name)).setCell ⟨b, off + 2, none⟩ (.int .i64 x.drift)).setCell ⟨b, off + 3, none⟩ (.bool x.pas)
section
variable {T b : Nat} {w : World} {d : Int} {s : ByteArray} {f : Int} {p : Bool}
end
end

section
open Go.RowKit
theorem ndOf_set {t : List Nd} {k : Nat} (h : k < t.length) (y : Nd) : ndOf (t.set k y) k = y := by simp [ndOf, List.getD, h]
theorem flatN_set : ∀ (t : List Nd) (k : Nat), k < t.length → ∀ (j : Nat) (u : Value) (y : Nd), ndCells y = (ndCells (ndOf t k)).set j u → j < 4 → (t.flatMap ndCells).set (k * 4 + j) u = (t.set k y).flatMap ndCells
  | [], _, h, _, _, _, _, _ => by simp at h
  | a :: r, 0, _, j, u, y, e, hj => by
    have e2 : ndOf (a :: r) 0 = a := by simp [ndOf]
    rw [e2] at e
    rw [List.set_cons_zero, List.flatMap_cons, List.flatMap_cons, e, Nat.zero_mul, Nat.zero_add]
    rw [List.set_append_left _ _ (by simp [ndCells]; omega)]
  | a :: r, k + 1, h, j, u, y, e, hj => by
    have e2 : ndOf (a :: r) (k + 1) = ndOf r k := by simp [ndOf]
    rw [e2] at e
    rw [List.set_cons_succ, List.flatMap_cons, List.flatMap_cons, List.set_append_right _ _ (by simp [ndCells]; omega)]
    rw [show (k + 1) * 4 + j - (ndCells a).length = k * 4 + j from by simp [ndCells]; omega, flatN_set r k (by simpa using h) j u y e hj]
section
variable {E : Nat} {w : World} {base g n cap : Nat} {t : List Nd}
theorem OwnN.field (ho : OwnN E w base (.slice (some ⟨g, 0, none⟩) n cap) t) (hl : t.length = n) {k : Nat} (hk : k < n) {j : Nat} (hj : j < 4) {u : Value} {y : Nd} (e : ndCells y = (ndCells (ndOf t k)).set j u) :
    w.frozen? ⟨g, k * 4 + j, none⟩ = false ∧ OwnN E (w.setCell ⟨g, k * 4 + j, none⟩ u) base (.slice (some ⟨g, 0, none⟩) n cap) (t.set k y) ∧ Below base w (w.setCell ⟨g, k * 4 + j, none⟩ u) := by
  have hb := (ho.block g rfl).1
  unfold OwnN at ho ⊢
  rw [hl] at ho
  refine ⟨World.ownsRow.frozenAt ho _, ?_, (Below.refl _ _).setCell (by exact hb) _⟩
  have h := (World.ownsRow.stored ho (k * 4 + j) u).1
  rw [flatN_set t k (by omega) j u y e hj] at h
  rw [List.length_set, hl]
  exact h
theorem OwnN.store (ho : OwnN E w base (.slice (some ⟨g, 0, none⟩) n cap) t) (hl : t.length = n) {k : Nat} (hk : k < n) (x : Nd) :
    NdIn w g (k * 4) (ndOf t k) ∧ (w.frozen? ⟨g, k * 4, none⟩ = false ∧ w.frozen? ⟨g, k * 4 + 1, none⟩ = false ∧ w.frozen? ⟨g, k * 4 + 2, none⟩ = false ∧ w.frozen? ⟨g, k * 4 + 3, none⟩ = false) ∧
      OwnN E (setNd w g (k * 4) x) base (.slice (some ⟨g, 0, none⟩) n cap) (t.set k x) ∧ Below base w (setNd w g (k * 4) x) := by
  have hin : NdIn w g (k * 4) (ndOf t k) := by
    obtain ⟨ao, cap', e, r, -⟩ := ho.form
    cases e
    obtain ⟨b, off, e, -, h⟩ := r.at (i := k) (by omega)
    cases e
    rwa [Nat.zero_add] at h
  have hkt : k < t.length := by omega
  generalize hz : ndOf t k = z at hin ⊢
  obtain ⟨f0, o0, b0⟩ := ho.field (j := 0) (u := .int .i64 x.id) (y := ⟨x.id, z.name, z.drift, z.pas⟩) hl hk (by omega) (by rw [hz]; rfl)
  obtain ⟨f1, -, -⟩ := ho.field (j := 1) (u := .string x.name) (y := ⟨z.id, x.name, z.drift, z.pas⟩) hl hk (by omega) (by rw [hz]; rfl)
  obtain ⟨f2, -, -⟩ := ho.field (j := 2) (u := .int .i64 x.drift) (y := ⟨z.id, z.name, x.drift, z.pas⟩) hl hk (by omega) (by rw [hz]; rfl)
  obtain ⟨f3, -, -⟩ := ho.field (j := 3) (u := .bool x.pas) (y := ⟨z.id, z.name, z.drift, x.pas⟩) hl hk (by omega) (by rw [hz]; rfl)
  obtain ⟨-, o1, b1⟩ := o0.field (j := 1) (u := .string x.name) (y := ⟨x.id, x.name, z.drift, z.pas⟩) (by rw [List.length_set]; exact hl) hk (by omega) (by rw [ndOf_set hkt]; rfl)
  rw [List.set_set] at o1
  obtain ⟨-, o2, b2⟩ := o1.field (j := 2) (u := .int .i64 x.drift) (y := ⟨x.id, x.name, x.drift, z.pas⟩) (by rw [List.length_set]; exact hl) hk (by omega) (by rw [ndOf_set hkt]; rfl)
  rw [List.set_set] at o2
  obtain ⟨-, o3, b3⟩ := o2.field (j := 3) (u := .bool x.pas) (y := x) (by rw [List.length_set]; exact hl) hk (by omega) (by rw [ndOf_set hkt]; rfl)
  rw [List.set_set] at o3
  exact ⟨hin, ⟨f0, f1, f2, f3⟩, o3, (((b0.trans b1).trans b2).trans b3)⟩
end
section
variable {P : Program} {E T : Nat} (w : World) {ops : Array Oper} {rest : List Oper} {o : Oper} {a : Act} {Q : Exit → Act → World → Prop}
end
end

section
open Go.RowKit
def szGo : List Nd → Int → Int
  | [], m => m
  | x :: r, m => if m < x.name.size then -1 else szGo r (m - x.name.size)
def szS (t : List Nd) (m : Int) : Int := if m < t.length then -1 else szGo t (m - t.length)
theorem szGo_names : ∀ (t : List Nd) (m : Int), 0 ≤ szGo t m → m ≤ 1048576 → smallN t
  | [], _, _, _ => fun i h => by simp at h
  | x :: r, m, h, hm => by
    rw [szGo] at h
    split at h
    · omega
    · rename_i hc
      have h1 := szGo_names r (m - x.name.size) h (by omega)
      intro i hi
      cases i with
      | zero => show (ndOf (x :: r) 0).name.size ≤ _; rw [show ndOf (x :: r) 0 = x from by simp [ndOf]]; omega
      | succ i => rw [show ndOf (x :: r) (i + 1) = ndOf r i from by simp [ndOf]]; exact h1 i (by simpa using hi)
theorem szS_ok {t : List Nd} (h : 0 ≤ szS t 1048576) : t.length ≤ 1048576 ∧ smallN t := by
  unfold szS at h
  split at h
  · omega
  · exact ⟨by omega, szGo_names _ _ h (by omega)⟩
theorem szGo_neg : ∀ (t : List Nd) (m : Int), 0 ≤ m → szGo t m = -1 ∨ (0 ≤ szGo t m ∧ szGo t m ≤ m)
  | [], m, h => .inr ⟨h, Int.le_refl _⟩
  | x :: r, m, h => by
    rw [szGo]
    split
    · exact .inl rfl
    · rcases szGo_neg r (m - x.name.size) (by omega) with h1 | h1
      · exact .inl h1
      · exact .inr ⟨h1.1, by omega⟩
theorem szS_neg (t : List Nd) : szS t 1048576 = -1 ∨ (0 ≤ szS t 1048576 ∧ szS t 1048576 ≤ 1048576) := by
  unfold szS
  split
  · exact .inl rfl
  · rcases szGo_neg t (1048576 - t.length) (by omega) with h1 | h1
    · exact .inl h1
    · exact .inr ⟨h1.1, by omega⟩
set_option maxHeartbeats 1000000 in
set_option maxRecDepth 100000 in
set_option linter.unusedSimpArgs false in
theorem eqNodes_yes (ao bo : Option Addr) (n c d : Nat) (t : List Nd) (w : World) (hx : RdN w ao n t) (hy : RdN w bo n t) (hn : n ≤ 9223372036854775807) (hc : n ≤ c) (hd : n ≤ d) :
    Calls Try.prog 9 #[.slice ao n c, .slice bo n d] w fun e w' => e = .returned (.bool true) ∧ Below w.heap.size w w' := by
  have HX := Lib.hid hx; have HY := Lib.hid hy; clear hx hy
  have hne : ((n : Int) != (n : Int)) = false := by simp
  go_enter Try.func9, Try.ntmps9
  go_wp2_with fail
  clear hne
  go_loopw [5] (fun i wr => ∃ k : Nat, k ≤ n ∧ i = .int .i64 k ∧ Below w.heap.size w wr) (fun i _ => n - (intOf i).toNat)
  case atStart => exact ⟨0, Nat.zero_le _, rfl, Below.refl _ _⟩
  case round =>
    obtain ⟨k, hk, rfl, hb⟩ := hrel
    by_cases hlt : k < n
    · obtain ⟨g, off, rfl, hg, hx⟩ := HX.out.at hlt
      obtain ⟨g', off', rfl, hg', hy⟩ := HY.out.at hlt
      replace hx := hx.below hb hg
      replace hy := hy.below hb hg'
      have HB := Lib.hid hb; clear hb
      obtain ⟨x, hxe⟩ : ∃ x, x = ndOf t k := ⟨_, rfl⟩
      rw [← hxe] at hx hy
      clear hxe
      have HGX := Lib.hid hg; have HGY := Lib.hid hg'
      have HXX := Lib.hid hx; have HYY := Lib.hid hy; clear hx hy hg hg'
      have hcall := fun W => eqNode_yes x W
      unfold ndVal at hcall
      have HCALL := Lib.hid hcall; clear hcall
      obtain ⟨xi, xn, xf, xp⟩ := x
      dsimp only at *
      go_upto_region 6 with fail
      refine wp_region_held_drew (S := fun w' => w'.cell? ⟨g, off + k * 4, none⟩ = some (.int .i64 xi) ∧ w'.cell? ⟨g, off + k * 4 + 1, none⟩ = some (.string xn) ∧ w'.cell? ⟨g, off + k * 4 + 2, none⟩ = some (.int .i64 xf) ∧ w'.cell? ⟨g, off + k * 4 + 3, none⟩ = some (.bool xp) ∧ w'.cell? ⟨g', off' + k * 4, none⟩ = some (.int .i64 xi) ∧ w'.cell? ⟨g', off' + k * 4 + 1, none⟩ = some (.string xn) ∧ w'.cell? ⟨g', off' + k * 4 + 2, none⟩ = some (.int .i64 xf) ∧ w'.cell? ⟨g', off' + k * 4 + 3, none⟩ = some (.bool xp)) (by kernel_rfl) (⟨HXX.out.c0, HXX.out.c1, HXX.out.c2, HXX.out.c3, HYY.out.c0, HYY.out.c1, HYY.out.c2, HYY.out.c3⟩) (fun hHeld => ?_)
      refine wpAnyH_take (i := 0) (v := ?_) rfl (by kernel_rfl) (by kernel_rfl) (by kernel_rfl) (fun _ _ _ h => h) (Or.inl ⟨by rfl, ?_⟩) (by assumption) ?_
      rotate_left
      · (intro w hSw; (try dsimp only at hSw); go_simp; (try with_reducible rfl))
      try simp only [List.getElem_toArray, List.getElem_cons_succ, List.getElem_cons_zero, Act.put, List.setIfInBounds_toArray, List.set_cons_zero, List.set_cons_succ]
      refine wpAnyH_take (i := 1) (v := ?_) rfl (by kernel_rfl) (by kernel_rfl) (by kernel_rfl) (fun _ _ _ h => h) (Or.inl ⟨by rfl, ?_⟩) (by assumption) ?_
      rotate_left
      · (intro w hSw; (try dsimp only at hSw); go_simp; (try with_reducible rfl))
      try simp only [List.getElem_toArray, List.getElem_cons_succ, List.getElem_cons_zero, Act.put, List.setIfInBounds_toArray, List.set_cons_zero, List.set_cons_succ]
      refine wpAnyH_take (i := 2) (v := ?_) rfl (by kernel_rfl) (by kernel_rfl) (by kernel_rfl) (fun _ _ _ h => h) (Or.inl ⟨by rfl, ?_⟩) (by assumption) ?_
      rotate_left
      · (intro w hSw; (try dsimp only at hSw); go_simp; (try with_reducible rfl))
      try simp only [List.getElem_toArray, List.getElem_cons_succ, List.getElem_cons_zero, Act.put, List.setIfInBounds_toArray, List.set_cons_zero, List.set_cons_succ]
      refine wpAnyH_take (i := 3) (v := ?_) rfl (by kernel_rfl) (by kernel_rfl) (by kernel_rfl) (fun _ _ _ h => h) (Or.inl ⟨by rfl, ?_⟩) (by assumption) ?_
      rotate_left
      · (intro w hSw; (try dsimp only at hSw); go_simp; (try with_reducible rfl))
      try simp only [List.getElem_toArray, List.getElem_cons_succ, List.getElem_cons_zero, Act.put, List.setIfInBounds_toArray, List.set_cons_zero, List.set_cons_succ]
      refine wpAnyH_take (i := 4) (v := ?_) rfl (by kernel_rfl) (by kernel_rfl) (by kernel_rfl) (fun _ _ _ h => h) (Or.inl ⟨by rfl, ?_⟩) (by assumption) ?_
      rotate_left
      · (intro w hSw; (try dsimp only at hSw); go_simp; (try with_reducible rfl))
      try simp only [List.getElem_toArray, List.getElem_cons_succ, List.getElem_cons_zero, Act.put, List.setIfInBounds_toArray, List.set_cons_zero, List.set_cons_succ]
      refine wpAnyH_take (i := 5) (v := ?_) rfl (by kernel_rfl) (by kernel_rfl) (by kernel_rfl) (fun _ _ _ h => h) (Or.inl ⟨by rfl, ?_⟩) (by assumption) ?_
      rotate_left
      · (intro w hSw; (try dsimp only at hSw); go_simp; (try with_reducible rfl))
      try simp only [List.getElem_toArray, List.getElem_cons_succ, List.getElem_cons_zero, Act.put, List.setIfInBounds_toArray, List.set_cons_zero, List.set_cons_succ]
      refine wpAnyH_take (i := 6) (v := ?_) rfl (by kernel_rfl) (by kernel_rfl) (by kernel_rfl) (fun _ _ _ h => h) (Or.inl ⟨by rfl, ?_⟩) (by assumption) ?_
      rotate_left
      · (intro w hSw; (try dsimp only at hSw); go_simp; (try with_reducible rfl))
      try simp only [List.getElem_toArray, List.getElem_cons_succ, List.getElem_cons_zero, Act.put, List.setIfInBounds_toArray, List.set_cons_zero, List.set_cons_succ]
      refine wpAnyH_take (i := 7) (v := ?_) rfl (by kernel_rfl) (by kernel_rfl) (by kernel_rfl) (fun _ _ _ h => h) (Or.inl ⟨by rfl, ?_⟩) (by assumption) ?_
      rotate_left
      · (intro w hSw; (try dsimp only at hSw); go_simp; (try with_reducible rfl))
      try simp only [List.getElem_toArray, List.getElem_cons_succ, List.getElem_cons_zero, Act.put, List.setIfInBounds_toArray, List.set_cons_zero, List.set_cons_succ]
      refine wpAnyH_ready (rs := [8]) (by kernel_rfl) (by simp) (AllReadyH.cons rfl (fun K hK => ?_) AllReadyH.nil)
      go_simp
      refine (HCALL.out _).mono ?_
      rintro e w2 ⟨rfl, b2⟩
      replace b2 := below_two (Below.drew (Below.refl wr.heap.size wr)) b2
      have HX2 := Lib.hid (HXX.out.below b2 (Nat.lt_of_lt_of_le HGX.out HB.out.size))
      have HY2 := Lib.hid (HYY.out.below b2 (Nat.lt_of_lt_of_le HGY.out HB.out.size))
      have HB2 := Lib.hid (below_two HB.out b2)
      clear b2
      go_wp2_with fail
      refine hK.out _ _ ?_ (fun hHeld => ?_)
      · exact ⟨HX2.out.c0, HX2.out.c1, HX2.out.c2, HX2.out.c3, HY2.out.c0, HY2.out.c1, HY2.out.c2, HY2.out.c3⟩
      clear hK K
      try simp only [List.getElem_toArray, List.getElem_cons_succ, List.getElem_cons_zero, Act.put, List.setIfInBounds_toArray, List.set_cons_zero, List.set_cons_succ]
      refine wpAnyH_take (i := 9) (v := ?_) rfl (by kernel_rfl) (by kernel_rfl) (by kernel_rfl) (fun _ _ _ h => h) (Or.inl ⟨by rfl, ?_⟩) (by assumption) ?_
      rotate_left
      · (intro w hSw; (try dsimp only at hSw); go_simp; (try with_reducible rfl))
      try simp only [List.getElem_toArray, List.getElem_cons_succ, List.getElem_cons_zero, Act.put, List.setIfInBounds_toArray, List.set_cons_zero, List.set_cons_succ]
      refine wpAnyH_done (by kernel_rfl) ?_ _
      go_wp2_with fail
      go_roundw
      case rel => exact ⟨k + 1, by omega, by go_num, HB2.out⟩
      case measure => simp [intOf]; omega
    · have hkn : k = n := by omega
      subst hkn
      have HB := Lib.hid hb; clear hb
      go_wp2_with fail
      go_ret
      exact ⟨rfl, HB.out⟩
end

section
open Go.RowKit
def mText (k : Nat) : ByteArray := { data := #[109] } ++ decStr k
def finTo (q : Nat) (s : ByteArray) : ByteArray := if q = 0 then s else decStr q ++ s
theorem finTo_step {q : Nat} {s : ByteArray} (h : 0 < q) : finTo (q / 10) (strOfNums [48 + ((q % 10 : Nat) : Int)] ++ s) = finTo q s := by
  have e : finTo q s = decStr q ++ s := by unfold finTo; rw [if_neg (by omega)]
  rw [e]
  by_cases h2 : q < 10
  · have e2 : q / 10 = 0 := by omega
    have e3 : q % 10 = q := by omega
    unfold finTo
    rw [if_pos e2, e3, decStr_small h2]
  · unfold finTo
    rw [if_neg (by omega), decStr_big h2, ByteArray.append_assoc]
theorem finTo_size (q : Nat) (s : ByteArray) : s.size ≤ (finTo q s).size := by
  unfold finTo
  split
  · omega
  · rw [ByteArray.size_append]; omega
set_option maxHeartbeats 1000000 in
set_option maxRecDepth 100000 in
theorem markText_any (K : Nat) (w : World) (h0 : 0 < K) (hK : K ≤ 9223372036854775807) : Calls Try.prog 21 #[.int .i64 K] w fun e w' => e = .returned (.string (mText K)) ∧ Below w.heap.size w w' := by
  have hsz := decStr_size K (by omega)
  have HSZ := Lib.hid hsz; clear hsz
  have hst : finTo K { data := #[] } = decStr K := by unfold finTo; rw [if_neg (by omega)]; exact ByteArray.append_empty
  have HST := Lib.hid hst; clear hst
  have hz : ¬ (K : Int) ≤ 0 := by omega
  go_enter Try.func21, Try.ntmps21
  go_wp2_with fail
  go_loopw [0, 3] (fun i o wr => ∃ (q : Nat) (s : ByteArray), q ≤ K ∧ i = .int .i64 q ∧ o = .string s ∧ Hid (finTo q s = decStr K) ∧ Below w.heap.size w wr) (fun i _ _ => (intOf i).toNat)
  case atStart => exact ⟨K, { data := #[] }, Nat.le_refl _, rfl, rfl, HST.out, Below.refl _ _⟩
  case round =>
    clear hz HST
    obtain ⟨q, s, hq, rfl, rfl, hfin, hb⟩ := hrel
    have hss : s.size ≤ 20 := by have := finTo_size q s; rw [hfin.out] at this; have := HSZ.out; omega
    by_cases hpos : 0 < q
    · have hstep := finTo_step (s := s) hpos
      rw [hfin.out] at hstep
      obtain ⟨d, hd⟩ : ∃ d : Nat, d = q % 10 := ⟨_, rfl⟩
      obtain ⟨r, hr⟩ : ∃ r : Nat, r = q / 10 := ⟨_, rfl⟩
      rw [← hd, ← hr] at hstep
      have hq2 : ((q : Int)).tdiv 10 = (r : Int) := by rw [Int.tdiv_eq_ediv_of_nonneg (by omega)]; omega
      have hd2 : ((q : Int)).tmod 10 = (d : Int) := by rw [Int.tmod_eq_emod_of_nonneg (by omega)]; omega
      have hrq : r < q := by omega
      have hw1 : IntKind.i64.wrap (r : Int) = (r : Int) := by rw [IntKind.wrap_i64]; omega
      have hw2 : IntKind.i64.wrap (48 + (d : Int)) = 48 + (d : Int) := by rw [IntKind.wrap_i64]; omega
      have hw3 : IntKind.u8.wrap (48 + (d : Int)) = 48 + (d : Int) := by
        simp only [IntKind.wrap, IntKind.signed, IntKind.bits]
        simp
        omega
      have hqp : (0 : Int) < (q : Int) := by omega
      have hc := conv_one
      have hadd := fun w => run_string_add (P := Try.prog) w (strOfNums [48 + (d : Int)]) s (by rw [strOfNums_size]; simp) (by omega)
      have HSTEP := Lib.hid hstep; have HB := Lib.hid hb
      clear hstep hd hr hb hss hpos
      go_wp2_with fail
      go_roundw
      case rel => exact ⟨r, strOfNums [48 + (d : Int)] ++ s, by omega, rfl, rfl, HSTEP.out, HB.out.alloc HB.out.size _⟩
      case measure => simp [intOf]; omega
    · have hq0 : q = 0 := by omega
      subst hq0
      have hfs : s = decStr K := by have := hfin.out; unfold finTo at this; rwa [if_pos rfl] at this
      subst hfs
      have hadd := fun w => run_string_add (P := Try.prog) w { data := #[109] } (decStr K) (by decide) (by omega)
      have HB := Lib.hid hb; clear hb
      go_wp2_with fail
      go_ret
      exact ⟨rfl, HB.out⟩
def mkN (q : Int) (i : Nat) : Nd := ⟨q + 4 * i, mText (q + 4 * i + 1).toNat, q + 4 * i + 2, (q + 4 * i + 3) % 3 == 0⟩
def marksN (q : Int) (n : Nat) : List Nd := (List.range n).map (mkN q)
theorem marksN_len (q : Int) (n : Nat) : (marksN q n).length = n := by simp [marksN]
theorem marksN_at {q : Int} {n i : Nat} (h : i < n) : ndOf (marksN q n) i = mkN q i := by simp [ndOf, marksN, List.getD, h]
def markToN (q : Int) (t : List Nd) (k : Nat) : List Nd := marksN q k ++ t.drop k
theorem markToN_len (q : Int) (t : List Nd) (k : Nat) (hk : k ≤ t.length) : (markToN q t k).length = t.length := by
  unfold markToN; rw [List.length_append, marksN_len, List.length_drop]; omega
theorem markToN_zero (q : Int) (t : List Nd) : markToN q t 0 = t := by simp [markToN, marksN]
theorem markToN_all (q : Int) (t : List Nd) : markToN q t t.length = marksN q t.length := by simp [markToN]
theorem markToN_succ (q : Int) (t : List Nd) (k : Nat) (hk : k < t.length) : (markToN q t k).set k (mkN q k) = markToN q t (k + 1) := by
  unfold markToN
  rw [List.set_append_right _ _ (by rw [marksN_len]; exact Nat.le_refl _), marksN_len, Nat.sub_self, List.drop_eq_getElem_cons hk, List.set_cons_zero]
  unfold marksN
  rw [List.range_succ, List.map_append]
  simp
end

section
open Go.RowKit
set_option maxHeartbeats 2000000 in
set_option maxRecDepth 100000 in
theorem markNodes_row (g n cap base : Nat) (t : List Nd) (q : Int) (w : World) (hl : t.length = n) (ho : OwnN 32 w base (.slice (some ⟨g, 0, none⟩) n cap) t) (hn : n ≤ 4194304) (hq0 : 1 ≤ q) (hq1 : q ≤ 16777216) :
    Calls Try.prog 12 #[.slice (some ⟨g, 0, none⟩) n cap, .int .i64 q] w fun e w' => e = .returned (.int .i64 (q + 4 * n)) ∧ OwnN 32 w' base (.slice (some ⟨g, 0, none⟩) n cap) (marksN q n) ∧ w.grownBy w' (some g) := by
  have HL := Lib.hid hl
  have ho' : OwnN 32 w base (.slice (some ⟨g, 0, none⟩) n cap) (markToN q t 0) := by rw [markToN_zero]; exact ho
  have HO := Lib.hid ho'; clear ho ho'
  go_enter Try.func12, Try.ntmps12
  go_wp2_with fail
  go_loopw [1, 5] (fun v i wr => ∃ k : Nat, k ≤ n ∧ i = .int .i64 k ∧ v = .int .i64 (q + 4 * k) ∧ OwnN 32 wr base (.slice (some ⟨g, 0, none⟩) n cap) (markToN q t k) ∧ w.grownBy wr (some g)) (fun _ i _ => n - (intOf i).toNat)
  case atStart => exact ⟨0, Nat.zero_le _, rfl, by simp, HO.out, World.grownBy.refl _ _⟩
  case round =>
    clear HO
    obtain ⟨k, hk, rfl, rfl, ho, hg⟩ := hrel
    by_cases hlt : k < n
    · have hkt : k < t.length := by rw [HL.out]; exact hlt
      have hlen := (markToN_len q t k (by omega)).trans HL.out
      have hkl : k < (markToN q t k).length := by omega
      have hsucc := markToN_succ q t k hkt
      obtain ⟨mt, hmt⟩ : ∃ mt, mt = markToN q t k := ⟨_, rfl⟩
      rw [← hmt] at ho hlen hsucc hkl
      obtain ⟨K, hK⟩ : ∃ K : Nat, K = (q + 4 * k).toNat := ⟨_, rfl⟩
      have hKi : q + 4 * (k : Int) = (K : Int) := by omega
      have hmk : mkN q k = ⟨(K : Int), mText (K + 1), (K : Int) + 1 + 1, ((K : Int) + 1 + 1 + 1) % 3 == 0⟩ := by
        unfold mkN
        rw [hKi]
        have e1 : ((K : Int) + 1).toNat = K + 1 := by omega
        have e2 : (K : Int) + 2 = (K : Int) + 1 + 1 := by omega
        have e3 : (K : Int) + 3 = (K : Int) + 1 + 1 + 1 := by omega
        rw [e1, e2, e3]
      rw [hmk] at hsucc
      rw [hKi]
      have hK0 : 0 < K := by omega
      have hK1 : K ≤ 33554432 := by omega
      have hK4 : q + 4 * ((k : Int) + 1) = (K : Int) + 4 := by omega
      have hnext : q + 4 * ((k + 1 : Nat) : Int) = (K : Int) + 4 := by omega
      have HNEXT := Lib.hid hnext; have HSUCC := Lib.hid hsucc; have HG := Lib.hid hg; have HLEN := Lib.hid hlen; have HKL := Lib.hid hkl
      generalize hz : ndOf mt k = z
      obtain ⟨zi, zn, zf, zp⟩ := z
      have hin := (ho.store hlen hlt Nd.zero).1
      rw [hz] at hin
      obtain ⟨d0, d1, d2, d3⟩ := hin
      obtain ⟨f0, o0, b0⟩ := ho.field (j := 0) (u := .int .i64 (K : Int)) (y := ⟨(K : Int), zn, zf, zp⟩) hlen hlt (by omega) (by rw [hz]; rfl)
      have G0 := Lib.hid (grown_trans HG.out (grown_set wr g (k * 4 + 0) (.int .i64 (K : Int))))
      have O0 := Lib.hid o0
      clear hnext hsucc hg hlen hkl hmt hK hKi hmk b0 o0 hK4 ho
      simp only [Nat.add_zero] at f0 O0 G0
      go_wp2_with fail
      refine (markText_any (K + 1) _ (by omega) (by omega)).mono ?_
      rintro e w2 ⟨rfl, b2⟩
      clear d0 d1 d2 d3 f0
      have O1 := Lib.hid (O0.out.below b2)
      have G1 := Lib.hid (grown_trans G0.out (grown_of_b b2 _))
      clear b2 O0 G0
      have hl1 : (mt.set k ⟨(K : Int), zn, zf, zp⟩).length = n := by rw [List.length_set]; exact HLEN.out
      have hin1 := (O1.out.store hl1 hlt Nd.zero).1
      rw [ndOf_set HKL.out] at hin1
      obtain ⟨d0, d1, d2, d3⟩ := hin1
      obtain ⟨f1, o2, -⟩ := O1.out.field (j := 1) (u := .string (mText (K + 1))) (y := ⟨(K : Int), mText (K + 1), zf, zp⟩) hl1 hlt (by omega) (by rw [ndOf_set HKL.out]; rfl)
      obtain ⟨f2, -, -⟩ := O1.out.field (j := 2) (u := .int .i64 0) (y := ⟨(K : Int), zn, 0, zp⟩) hl1 hlt (by omega) (by rw [ndOf_set HKL.out]; rfl)
      obtain ⟨f3, -, -⟩ := O1.out.field (j := 3) (u := .bool true) (y := ⟨(K : Int), zn, zf, true⟩) hl1 hlt (by omega) (by rw [ndOf_set HKL.out]; rfl)
      rw [List.set_set] at o2
      have hl2 : (mt.set k ⟨(K : Int), mText (K + 1), zf, zp⟩).length = n := by rw [List.length_set]; exact HLEN.out
      obtain ⟨-, o3, -⟩ := o2.field (j := 2) (u := .int .i64 ((K : Int) + 2)) (y := ⟨(K : Int), mText (K + 1), (K : Int) + 1 + 1, zp⟩) hl2 hlt (by omega) (by rw [ndOf_set HKL.out]; rfl)
      rw [List.set_set] at o3
      have hl3 : (mt.set k ⟨(K : Int), mText (K + 1), (K : Int) + 1 + 1, zp⟩).length = n := by rw [List.length_set]; exact HLEN.out
      obtain ⟨-, o4, -⟩ := o3.field (j := 3) (u := .bool (((K : Int) + 1 + 1 + 1) % 3 == 0)) (y := ⟨(K : Int), mText (K + 1), (K : Int) + 1 + 1, ((K : Int) + 1 + 1 + 1) % 3 == 0⟩) hl3 hlt (by omega) (by rw [ndOf_set HKL.out]; rfl)
      rw [List.set_set, HSUCC.out] at o4
      have g2 := grown_trans G1.out (grown_set w2 g (k * 4 + 1) (.string (mText (K + 1))))
      have g3 := grown_trans g2 (grown_set _ g (k * 4 + 2) (.int .i64 ((K : Int) + 1 + 1)))
      have g4 := grown_trans g3 (grown_set _ g (k * 4 + 3) (.bool (((K : Int) + 1 + 1 + 1) % 3 == 0)))
      have O4 := Lib.hid o4; have G4 := Lib.hid g4
      clear hl1 hl2 hl3 o2 o3 o4 g2 g3 g4
      clear O1 G1
      go_wp2_with fail
      go_roundw
      case rel => exact ⟨k + 1, by omega, by go_num, by rw [HNEXT.out]; go_num, O4.out, G4.out⟩
      case measure => simp [intOf]; omega
    · have hkn : k = n := by omega
      subst hkn
      have HOO := Lib.hid ho; have HG := Lib.hid hg; clear ho hg
      go_wp2_with fail
      go_ret
      exact ⟨rfl, by have h := HOO.out; rw [← HL.out, markToN_all] at h; rw [HL.out] at h; exact h, HG.out⟩
theorem markNodes_any (ao : Option Addr) (n cap base : Nat) (t : List Nd) (q : Int) (w : World) (hl : t.length = n) (ho : OwnN 32 w base (.slice ao n cap) t) (hn : n ≤ 4194304) (hq0 : 1 ≤ q) (hq1 : q ≤ 16777216) :
    Calls Try.prog 12 #[.slice ao n cap, .int .i64 q] w fun e w' => e = .returned (.int .i64 (q + 4 * n)) ∧ OwnN 32 w' base (.slice ao n cap) (marksN q n) ∧ w.grownBy w' (Value.ownBlock (.slice ao n cap)) := by
  obtain ⟨ao', cap', e, -, -, -, hcase⟩ := ho.form
  rw [hl] at e
  cases e
  rcases hcase with hnil | ⟨g, rfl, -, -⟩
  · simp only [Value.slice.injEq] at hnil
    obtain ⟨rfl, rfl, rfl⟩ := hnil
    clear ho
    go_enter Try.func12, Try.ntmps12
    go_wp2
    refine wp_loop_rounds 1 ?_
    rw [rounds_succ]
    go_wp2
    go_ret
    exact ⟨ret_int (by simp), OwnN.nil_, World.grownBy.refl _ _⟩
  · exact markNodes_row g n cap base t q w hl ho hn hq0 hq1
set_option maxHeartbeats 2000000 in
set_option maxRecDepth 100000 in
set_option linter.unusedSimpArgs false in
theorem heldNodes_yes (ao : Option Addr) (n cap : Nat) (q : Int) (w : World) (hr : RdN w ao n (marksN q n)) (hn : n ≤ 4194304) (hq0 : 1 ≤ q) (hq1 : q ≤ 16777216) :
    Calls Try.prog 15 #[.slice ao n cap, .int .i64 q] w fun e w' => e = .returned (.int .i64 (q + 4 * n)) ∧ Below w.heap.size w w' := by
  have HR := Lib.hid hr; clear hr
  go_enter Try.func15, Try.ntmps15
  go_wp2_with fail
  go_loopw [1, 5] (fun v i wr => ∃ k : Nat, k ≤ n ∧ i = .int .i64 k ∧ v = .int .i64 (q + 4 * k) ∧ Below w.heap.size w wr) (fun _ i _ => n - (intOf i).toNat)
  case atStart => exact ⟨0, Nat.zero_le _, rfl, by simp, Below.refl _ _⟩
  case round =>
    obtain ⟨k, hk, rfl, rfl, hb⟩ := hrel
    by_cases hlt : k < n
    · obtain ⟨g, off, rfl, hg, hx⟩ := HR.out.at hlt
      rw [marksN_at hlt] at hx
      replace hx := hx.below hb hg
      obtain ⟨K, hK⟩ : ∃ K : Nat, K = (q + 4 * k).toNat := ⟨_, rfl⟩
      have hKi : q + 4 * (k : Int) = (K : Int) := by omega
      have hmk : mkN q k = ⟨(K : Int), mText (K + 1), (K : Int) + 1 + 1, ((K : Int) + 1 + 1 + 1) % 3 == 0⟩ := by
        unfold mkN
        rw [hKi]
        have e1 : ((K : Int) + 1).toNat = K + 1 := by omega
        have e2 : (K : Int) + 2 = (K : Int) + 1 + 1 := by omega
        have e3 : (K : Int) + 3 = (K : Int) + 1 + 1 + 1 := by omega
        rw [e1, e2, e3]
      rw [hmk] at hx
      rw [hKi]
      have hK0 : 0 < K := by omega
      have hK1 : K ≤ 33554432 := by omega
      have hnext : q + 4 * ((k + 1 : Nat) : Int) = (K : Int) + 4 := by omega
      have hcall := fun W => markText_any (K + 1) W (by omega) (by omega)
      obtain ⟨s, hs⟩ : ∃ s, s = mText (K + 1) := ⟨_, rfl⟩
      rw [← hs] at hx hcall
      rw [show ((K + 1 : Nat) : Int) = (K : Int) + 1 from by omega] at hcall
      have HCALL := Lib.hid hcall; clear hs hcall
      have HNEXT := Lib.hid hnext; have HB := Lib.hid hb; have HX := Lib.hid hx
      have HG := Lib.hid (Nat.lt_of_lt_of_le hg HB.out.size)
      clear hnext hb hK hKi hmk hg
      obtain ⟨h0, h1, h2, h3⟩ := hx
      have n0 : ((K : Int) != (K : Int)) = false := by simp
      go_upto_region 7 with fail
      clear h0 h1 h2 h3
      refine wp_region_held_drew (S := fun w' => w'.cell? ⟨g, off + k * 4 + 1, none⟩ = some (.string s)) (by kernel_rfl) (HX.out.c1) (fun hHeld => ?_)
      refine wpAnyH_take (i := 0) (v := ?_) rfl (by kernel_rfl) (by kernel_rfl) (by kernel_rfl) (fun _ _ _ h => h) (Or.inl ⟨by rfl, ?_⟩) (by assumption) ?_
      rotate_left
      · (intro w hSw; (try dsimp only at hSw); go_simp; (try with_reducible rfl))
      try simp only [List.getElem_toArray, List.getElem_cons_succ, List.getElem_cons_zero, Act.put, List.setIfInBounds_toArray, List.set_cons_zero, List.set_cons_succ]
      refine wpAnyH_take (i := 1) (v := ?_) rfl (by kernel_rfl) (by kernel_rfl) (by kernel_rfl) (fun _ _ _ h => h) (Or.inl ⟨by rfl, ?_⟩) (by assumption) ?_
      rotate_left
      · (intro w hSw; (try dsimp only at hSw); go_simp; (try with_reducible rfl))
      try simp only [List.getElem_toArray, List.getElem_cons_succ, List.getElem_cons_zero, Act.put, List.setIfInBounds_toArray, List.set_cons_zero, List.set_cons_succ]
      refine wpAnyH_take (i := 2) (v := ?_) rfl (by kernel_rfl) (by kernel_rfl) (by kernel_rfl) (fun _ _ _ h => h) (Or.inl ⟨by rfl, ?_⟩) (by assumption) ?_
      rotate_left
      · (intro w hSw; (try dsimp only at hSw); go_simp; (try with_reducible rfl))
      try simp only [List.getElem_toArray, List.getElem_cons_succ, List.getElem_cons_zero, Act.put, List.setIfInBounds_toArray, List.set_cons_zero, List.set_cons_succ]
      refine wpAnyH_take (i := 3) (v := ?_) rfl (by kernel_rfl) (by kernel_rfl) (by kernel_rfl) (fun _ _ _ h => h) (Or.inl ⟨by rfl, ?_⟩) (by assumption) ?_
      rotate_left
      · (intro w hSw; (try dsimp only at hSw); go_simp; (try with_reducible rfl))
      try simp only [List.getElem_toArray, List.getElem_cons_succ, List.getElem_cons_zero, Act.put, List.setIfInBounds_toArray, List.set_cons_zero, List.set_cons_succ]
      refine wpAnyH_take (i := 4) (v := ?_) rfl (by kernel_rfl) (by kernel_rfl) (by kernel_rfl) (fun _ _ _ h => h) (Or.inl ⟨by rfl, ?_⟩) (by assumption) ?_
      rotate_left
      · (intro w hSw; (try dsimp only at hSw); go_simp; (try with_reducible rfl))
      try simp only [List.getElem_toArray, List.getElem_cons_succ, List.getElem_cons_zero, Act.put, List.setIfInBounds_toArray, List.set_cons_zero, List.set_cons_succ]
      refine wpAnyH_take (i := 5) (v := ?_) rfl (by kernel_rfl) (by kernel_rfl) (by kernel_rfl) (fun _ _ _ h => h) (Or.inl ⟨by rfl, ?_⟩) (by assumption) ?_
      rotate_left
      · (intro w hSw; (try dsimp only at hSw); go_simp; (try with_reducible rfl))
      try simp only [List.getElem_toArray, List.getElem_cons_succ, List.getElem_cons_zero, Act.put, List.setIfInBounds_toArray, List.set_cons_zero, List.set_cons_succ]
      refine wpAnyH_ready (rs := [6]) (by kernel_rfl) (by simp) (AllReadyH.cons rfl (fun K hK => ?_) AllReadyH.nil)
      go_simp
      refine (HCALL.out _).mono ?_
      rintro e w2 ⟨rfl, b2⟩
      replace b2 := below_two (Below.drew (Below.refl wr.heap.size wr)) b2
      have HX2 := Lib.hid (HX.out.below b2 HG.out)
      have HB2 := Lib.hid (below_two HB.out b2)
      clear b2
      go_wp2_with fail
      refine hK.out _ _ ?_ (fun hHeld => ?_)
      · exact HX2.out.c1
      clear hK K
      try simp only [List.getElem_toArray, List.getElem_cons_succ, List.getElem_cons_zero, Act.put, List.setIfInBounds_toArray, List.set_cons_zero, List.set_cons_succ]
      refine wpAnyH_take (i := 7) (v := ?_) rfl (by kernel_rfl) (by kernel_rfl) (by kernel_rfl) (fun _ _ _ h => h) (Or.inl ⟨by rfl, ?_⟩) (by assumption) ?_
      rotate_left
      · (intro w hSw; (try dsimp only at hSw); go_simp; (try with_reducible rfl))
      try simp only [List.getElem_toArray, List.getElem_cons_succ, List.getElem_cons_zero, Act.put, List.setIfInBounds_toArray, List.set_cons_zero, List.set_cons_succ]
      refine wpAnyH_done (by kernel_rfl) ?_ _
      obtain ⟨h0, h1, h2, h3⟩ := HX2.out
      go_wp2_with fail
      go_roundw
      case rel => exact ⟨k + 1, by omega, by go_num, by rw [HNEXT.out]; go_num, HB2.out⟩
      case measure => simp [intOf]; omega
    · have hkn : k = n := by omega
      subst hkn
      have HB := Lib.hid hb; clear hb
      go_wp2_with fail
      go_ret
      exact ⟨rfl, HB.out⟩
end
end Go.Proofs.Ytfoflfmpbbpbgaa
