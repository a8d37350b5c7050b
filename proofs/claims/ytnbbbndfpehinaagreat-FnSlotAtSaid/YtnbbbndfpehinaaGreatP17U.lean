/-
  Contracts of the program's, the model's and the laws' functions, and plain mathematics, on which a proof of this claim stands (part U).
-/
import Derived.Laws.NewBlocks
import Derived.Test.YtnbbbndfpehinaaGreatP17A
import Derived.Test.YtnbbbndfpehinaaGreatP17N
import Derived.Test.YtnbbbndfpehinaaGreatP17I
import Derived.Test.YtnbbbndfpehinaaGreatP17M
import Derived.Test.YtnbbbndfpehinaaGreatP17O
namespace Go.Proofs.YtnbbbndfpehinaaGreat
section
open Go.RowKit
theorem cell_later {w w' : World} {a : Addr} {u : Value} (hb : Below w.heap.size w w') (h : w.cell? a = some u) : w'.cell? a = some u := (hb.cell (World.block_lt_of_cell? _ _ h)).trans h
def OwnR (E : Nat) (w : World) (base : Nat) (v : Value) (xs : List Value) : Prop := w.ownsRow base E 1 v xs.length xs
abbrev InfoRw (P : Program) (E : Nat) : Prop := (P.info? E).map (fun i => (i.zero, i.size, i.bytes)) = some (some (.slice none 0 0), 1, 24)
theorem info_parts_r {P : Program} {E : Nat} (h : InfoRw P E) : ∃ i, P.info? E = some i ∧ i.zero = some (.slice none 0 0) ∧ i.size = 1 ∧ i.bytes = 24 := by
  unfold InfoRw at h
  cases hi : P.info? E with
  | none => rw [hi] at h; cases h
  | some i =>
    rw [hi] at h
    simp only [Option.map_some, Option.some.injEq, Prod.mk.injEq] at h
    exact ⟨i, rfl, h.1, h.2.1, h.2.2⟩
section
variable {P : Program} {E T : Nat} (w : World) {ops : Array Oper} {rest : List Oper} {o : Oper} {a : Act} {Q : Exit → Act → World → Prop} {K : Act → World → Prop}
theorem appRr_op (s x : Operand) (ho : o.op = .call { callee := .builtin .append, args := #[s, x], argTypes := #[T, T] })
    (base : Nat) (ht : P.underlying T = some (.slice E)) (hi : InfoRw P E)
    (v : Value) (t : List Value) (hs : a.eval s = v) (hown : OwnR E w base v t) (b : Nat) (yo : Option Addr) (yn yc : Nat) (c : Nat) (hx : a.eval x = .slice (some ⟨b, 0, none⟩) 1 c) (hc : w.cell? ⟨b, 0, none⟩ = some (.slice yo yn yc))
    (hlen : t.length ≤ 4294967296) (hbase : base ≤ w.heap.size)
    (h : ∀ v' w', OwnR E w' base v' (t ++ [.slice yo yn yc]) → w.grownBy w' v.ownBlock → K (a.put o.dst v') w') : o.wp P a w K Q := by
  obtain ⟨i0, hi, hz0, hz1, hz2⟩ := info_parts_r hi
  refine wp_append_own w s x T ho base E i0 (.slice none 0 0) 1 24 ht hi hz0 hz1 hz2 rfl (by decide) v t.length t hs hown ⟨b, 0, none⟩ 1 c [.slice yo yn yc] hx rfl ?_ ?_ (by unfold maxLen; omega) (by omega) hbase ?_
  · intro j u hj
    match j, hj with
    | 0, hj => simp at hj; subst hj; simpa [Addr.add] using hc
  · intro u hu; simp at hu; subst hu; rfl
  · intro v' w' h1 h2 _
    refine h v' w' ?_ h2
    unfold OwnR
    rw [List.length_append]
    simpa using h1
end
def startsL (L : List Sl) : List Int := (List.range (L.length + 1)).map fun p => dursum (L.take p)
theorem startsL_len (L : List Sl) : (startsL L).length = L.length + 1 := by simp [startsL]
theorem startsL_at {L : List Sl} {p : Nat} (h : p ≤ L.length) : (startsL L).getD p 0 = dursum (L.take p) := by
  simp [startsL, List.getD, show p < L.length + 1 by omega]
def startsTo (L : List Sl) (k : Nat) : List Int := (List.range (k + 1)).map fun p => dursum (L.take p)
theorem startsTo_zero (L : List Sl) : startsTo L 0 = [0] := by simp [startsTo, dursum]
theorem startsTo_len (L : List Sl) (k : Nat) : (startsTo L k).length = k + 1 := by simp [startsTo]
theorem startsTo_all (L : List Sl) : startsTo L L.length = startsL L := rfl
theorem startsTo_at (L : List Sl) (k : Nat) : (startsTo L k).getD k 0 = dursum (L.take k) := by simp [startsTo, List.getD]
theorem startsTo_next {L : List Sl} {k : Nat} (h : k < L.length) : startsTo L (k + 1) = startsTo L k ++ [dursum (L.take k) + (slOf L k).desc.dur] := by
  unfold startsTo
  rw [List.range_succ, List.map_append, List.map_singleton, dursum_next h]
def LkAt (w : World) (b : Nat) (v : Mv) (d l : Int) (sv : Value) : Prop :=
  w.heap[b]? = some (.cells #[.int .i64 v.id, .slice v.no v.n.length v.nc, .slice v.mo v.cs.length v.mc, .slice v.eo v.e.length v.ec, .int .u32 d, .int .i32 l, .int .u32 0, sv] 116 (0, 0))
section
variable {w w' : World} {b : Nat} {v : Mv} {d l : Int} {sv : Value}
theorem LkAt.c0 (h : LkAt w b v d l sv) : w.cell? ⟨b, 0, none⟩ = some (.int .i64 v.id) := cell_of_row w b 0 _ _ (0, 0) h
theorem LkAt.c1 (h : LkAt w b v d l sv) : w.cell? ⟨b, 1, none⟩ = some (.slice v.no v.n.length v.nc) := cell_of_row w b 1 _ _ (0, 0) h
theorem LkAt.c2 (h : LkAt w b v d l sv) : w.cell? ⟨b, 2, none⟩ = some (.slice v.mo v.cs.length v.mc) := cell_of_row w b 2 _ _ (0, 0) h
theorem LkAt.c3 (h : LkAt w b v d l sv) : w.cell? ⟨b, 3, none⟩ = some (.slice v.eo v.e.length v.ec) := cell_of_row w b 3 _ _ (0, 0) h
theorem LkAt.c4 (h : LkAt w b v d l sv) : w.cell? ⟨b, 4, none⟩ = some (.int .u32 d) := cell_of_row w b 4 _ _ (0, 0) h
theorem LkAt.c5 (h : LkAt w b v d l sv) : w.cell? ⟨b, 5, none⟩ = some (.int .i32 l) := cell_of_row w b 5 _ _ (0, 0) h
theorem LkAt.c7 (h : LkAt w b v d l sv) : w.cell? ⟨b, 7, none⟩ = some sv := cell_of_row w b 7 _ _ (0, 0) h
theorem LkAt.f (h : LkAt w b v d l sv) (i : Nat) : w.frozen? ⟨b, i, none⟩ = false := frozen_of_row w b i _ _ h
theorem LkAt.lt (h : LkAt w b v d l sv) : b < w.heap.size := (Array.getElem?_eq_some_iff.1 h).1
theorem LkAt.grown {g : Option Nat} (h : LkAt w b v d l sv) (hg : w.grownBy w' g) (hne : some b ≠ g) : LkAt w' b v d l sv := (hg.block b h.lt hne).trans h
theorem LkAt.below {B : Nat} (h : LkAt w b v d l sv) (hb : Below B w w') (hlt : b < B) : LkAt w' b v d l sv := (hb.block b hlt).trans h
theorem LkAt.new (w : World) : LkAt (w.alloc (.cells #[.int .i64 v.id, .slice v.no v.n.length v.nc, .slice v.mo v.cs.length v.mc, .slice v.eo v.e.length v.ec, .int .u32 d, .int .i32 l, .int .u32 0, sv] 116)) w.heap.size v d l sv := heap_alloc_new w _
theorem LkAt.drew (h : LkAt w b v d l sv) : LkAt w.drew b v d l sv := h
theorem LkAt.set4 (h : LkAt w b v d l sv) (z : Int) : LkAt (w.setCell ⟨b, 4, none⟩ (.int .u32 z)) b v z l sv := by
  have := heap_setCell_same w b 4 _ _ (.int .u32 z) h
  simpa [LkAt] using this
theorem LkAt.set5 (h : LkAt w b v d l sv) (z : Int) : LkAt (w.setCell ⟨b, 5, none⟩ (.int .i32 z)) b v d z sv := by
  have := heap_setCell_same w b 5 _ _ (.int .i32 z) h
  simpa [LkAt] using this
theorem LkAt.set7 (h : LkAt w b v d l sv) (z : Value) : LkAt (w.setCell ⟨b, 7, none⟩ z) b v d l z := by
  have := heap_setCell_same w b 7 _ _ z h
  simpa [LkAt] using this
end
end

section
open Go.RowKit
section
variable {w W W' : World} {b B : Nat} {v : Mv} {d : Int} {sv : Value} {x : Ss}
end
theorem Lies.cell {v : Mv} {x : Ss} {j R S r s : Nat} (h : Lies v.me x j R S r s) {w : World} (hr : RdMe w v) : ∃ g off, v.mo = some ⟨g, off, none⟩ ∧ j < v.cs.length ∧ w.cell? ⟨g, off + j * 3, none⟩ = some (.int .i64 (R : Int)) ∧ w.cell? ⟨g, off + j * 3 + 1, none⟩ = some (.int .i64 (S : Int)) := by
  have hj : j < v.cs.length := by have e : v.me.modes.length = v.cs.length := mds_len v.cs; have := h.hj; omega
  obtain ⟨g, off, e, -, hx, -⟩ := hr.rm.at hj
  have e1 := h.hR
  have e2 := h.hS
  rw [mdOf_me] at e1 e2
  have c0 := hx.c0
  have c1 := hx.c1
  rw [e1] at c0
  rw [e2] at c1
  exact ⟨g, off, e, hj, c0, c1⟩
end

section
open Go.RowKit
set_option linter.unusedSimpArgs false in
set_option maxRecDepth 100000 in
set_option maxHeartbeats 2000000 in
theorem startsIn_any (ao : Option Addr) (n cap : Nat) (t : List Sl) (w : World) (hr : RdE w ao n t) (hn : n ≤ 4096) (hd : ∀ x ∈ t, 1 ≤ x.desc.dur ∧ x.desc.dur ≤ 1000) :
    Calls Tryz.prog 133 #[.slice ao n cap] w (Makes 2 w (startsL t)) := by
  have HL := Lib.hid hr.len
  have HR := Lib.hid hr
  have HD := Lib.hid hd
  clear hr hd
  go_enter Tryz.func133, Tryz.ntmps133
  go_wp2_with fail
  have hone := Own.one (E := 2) (base := w.heap.size) (w := w) (0 : Int) (Nat.le_refl _)
  rw [← startsTo_zero t] at hone
  have hb0 : Below w.heap.size w (w.alloc (.cells #[.int .i64 0] 2)) := (Below.refl _ _).alloc (Nat.le_refl _) _
  go_loopw [3, 9] (fun o i wr => ∃ k : Nat, k ≤ n ∧ i = .int .i64 k ∧ Own 2 wr w.heap.size o (startsTo t k) ∧ Below w.heap.size w wr) (fun _ i _ => n - (intOf i).toNat)
  case atStart => exact ⟨0, Nat.zero_le _, rfl, hone, hb0⟩
  case round =>
    clear hone hb0
    obtain ⟨k, hk, rfl, hown, hb⟩ := hrel
    by_cases hlt : k < n
    · obtain ⟨b, off, e0, hg, hx⟩ := (HR.out.below hb).at hlt
      subst e0
      have hkt : k < t.length := by rw [HL.out]; exact hlt
      have hnx := startsTo_next hkt
      have hdx := HD.out _ (slOf_mem hkt)
      have hzb := dursum_in (t := t.take k) fun x hx => HD.out x (List.mem_of_mem_take hx)
      have hat := startsTo_at t k
      have hle := startsTo_len t k
      have hzl : (t.take k).length ≤ 4096 := by rw [List.length_take]; omega
      generalize dursum (t.take k) = z at hnx hzb hat
      generalize slOf t k = x at hx hnx hdx
      have hw : IntKind.i64.wrap (z + x.desc.dur) = z + x.desc.dur := by rw [IntKind.wrap_i64]; omega
      have HNX := Lib.hid hnx
      clear hkt hnx hdx hzb hzl
      obtain ⟨A, hA⟩ : ∃ A, A = startsTo t k := ⟨_, rfl⟩
      rw [← hA] at hown hat hle HNX
      clear hA
      obtain ⟨ao1, c1, e1, -, r1⟩ := hown.get
      subst e1
      obtain ⟨g1, o1, e2, hx0⟩ := r1.here (by omega)
      have hx1 := hx0 k (by omega)
      clear hx0
      subst e2
      rw [hat] at hx1
      have hkA : k < A.length := by omega
      have HLE := Lib.hid hle
      clear hat hle r1
      obtain ⟨q0, q1, q2, q3, q4, q5, q6, q7⟩ := hx.all8
      have bal := (Below.refl wr.heap.size wr).alloc (Nat.le_refl _) (.cells #[.int .i64 x.mode, .int .i64 x.round, .int .i64 x.slot, .int .i64 x.desc.node, .int .i64 x.desc.kind, .int .i64 x.desc.size, .int .i64 x.desc.dur, .bool x.desc.chg] 123)
      have HX1 := Lib.hid (SlBk.new (T := 123) (x := x) wr)
      have HB2 := Lib.hid (below_two hb bal)
      have HO2 := Lib.hid (hown.below bal)
      have hx2 := cell_later bal hx1
      clear bal hb hown hx hx1
      go_upto_region 5 with fail
      clear q0 q1 q2 q3 q4 q5 q6 q7
      have hlt3 : wr.heap.size < (wr.alloc (.cells #[.int .i64 x.mode, .int .i64 x.round, .int .i64 x.slot, .int .i64 x.desc.node, .int .i64 x.desc.kind, .int .i64 x.desc.size, .int .i64 x.desc.dur, .bool x.desc.chg] 123)).heap.size := by simp
      generalize wr.alloc (.cells #[.int .i64 x.mode, .int .i64 x.round, .int .i64 x.slot, .int .i64 x.desc.node, .int .i64 x.desc.kind, .int .i64 x.desc.size, .int .i64 x.desc.dur, .bool x.desc.chg] 123) = w2 at HX1 HB2 HO2 hx2 hlt3 ⊢
      obtain ⟨X, hX⟩ : ∃ X, X = wr.heap.size := ⟨_, rfl⟩
      rw [← hX] at HX1 hlt3 ⊢
      clear hX
      have HX3 := Lib.hid (HX1.out.below (Below.drew (Below.refl w2.heap.size w2)) hlt3)
      have HB3 := Lib.hid (below_two HB2.out (Below.drew (Below.refl w2.heap.size w2)))
      have HO3 := Lib.hid (HO2.out.below (Below.drew (Below.refl w2.heap.size w2)))
      have hx3 : w2.drew.cell? ⟨g1, o1 + k, none⟩ = some (.int .i64 z) := hx2
      have q6 := HX3.out.all8.2.2.2.2.2.2.1
      refine wp_region_held_drew (S := fun w' => w'.cell? ⟨X, 6, none⟩ = some (.int .i64 x.desc.dur)) (by kernel_rfl) (q6) (fun hHeld => ?_)
      generalize w2.drew = wd at HX3 HB3 HO3 hx3 q6 hHeld ⊢
      refine wpAnyH_take (i := 0) (v := ?_) rfl (by kernel_rfl) (by kernel_rfl) (by kernel_rfl) (fun _ _ _ h => h) (Or.inl ⟨by rfl, ?_⟩) (by assumption) ?_
      rotate_left
      · (intro w hSw; (try dsimp only at hSw); go_simp; (try with_reducible rfl))
      try simp only [List.getElem_toArray, List.getElem_cons_succ, List.getElem_cons_zero, Act.put, List.setIfInBounds_toArray, List.set_cons_zero, List.set_cons_succ]
      refine wpAnyH_take (i := 1) (v := ?_) rfl (by kernel_rfl) (by kernel_rfl) (by kernel_rfl) (fun _ _ _ h => h) (Or.inl ⟨by rfl, ?_⟩) (by assumption) ?_
      rotate_left
      · (intro w hSw; (try dsimp only at hSw); go_simp; (try with_reducible rfl))
      try simp only [List.getElem_toArray, List.getElem_cons_succ, List.getElem_cons_zero, Act.put, List.setIfInBounds_toArray, List.set_cons_zero, List.set_cons_succ]
      refine wpAnyH_take (i := 2) (v := ?_) rfl (by kernel_rfl) (by kernel_rfl) (by kernel_rfl) (fun _ _ _ h => h) (Or.inl ⟨by rfl, ?_⟩) (by assumption) ?_
      rotate_left
      · (intro w hSw; (try dsimp only at hSw); go_simp; (try with_reducible rfl))
      try simp only [List.getElem_toArray, List.getElem_cons_succ, List.getElem_cons_zero, Act.put, List.setIfInBounds_toArray, List.set_cons_zero, List.set_cons_succ]
      refine wpAnyH_take (i := 3) (v := ?_) rfl (by kernel_rfl) (by kernel_rfl) (by kernel_rfl) (fun _ _ _ h => h) (Or.inl ⟨by rfl, ?_⟩) (by assumption) ?_
      rotate_left
      · (intro w hSw; (try dsimp only at hSw); go_simp; (try with_reducible rfl))
      try simp only [List.getElem_toArray, List.getElem_cons_succ, List.getElem_cons_zero, Act.put, List.setIfInBounds_toArray, List.set_cons_zero, List.set_cons_succ]
      refine wpAnyH_take (i := 5) (v := ?_) rfl (by kernel_rfl) (by kernel_rfl) (by kernel_rfl) (fun _ _ _ h => h) (Or.inl ⟨by rfl, ?_⟩) (by assumption) ?_
      rotate_left
      · (intro w hSw; (try dsimp only at hSw); go_simp; (try with_reducible rfl))
      try simp only [List.getElem_toArray, List.getElem_cons_succ, List.getElem_cons_zero, Act.put, List.setIfInBounds_toArray, List.set_cons_zero, List.set_cons_succ]
      refine wpAnyH_take (i := 6) (v := ?_) rfl (by kernel_rfl) (by kernel_rfl) (by kernel_rfl) (fun _ _ _ h => h) (Or.inl ⟨by rfl, ?_⟩) (by assumption) ?_
      rotate_left
      · (intro w hSw; (try dsimp only at hSw); go_simp; (try with_reducible rfl))
      try simp only [List.getElem_toArray, List.getElem_cons_succ, List.getElem_cons_zero, Act.put, List.setIfInBounds_toArray, List.set_cons_zero, List.set_cons_succ]
      refine wpAnyH_take (i := 7) (v := ?_) rfl (by kernel_rfl) (by kernel_rfl) (by kernel_rfl) (fun _ _ _ h => h) (Or.inl ⟨by rfl, ?_⟩) (by assumption) ?_
      rotate_left
      · (intro w hSw; (try dsimp only at hSw); go_simp; (try with_reducible rfl))
      try simp only [List.getElem_toArray, List.getElem_cons_succ, List.getElem_cons_zero, Act.put, List.setIfInBounds_toArray, List.set_cons_zero, List.set_cons_succ]
      refine wpAnyH_ready (rs := [4]) (by kernel_rfl) (by simp) (AllReadyH.cons rfl (fun K hK => ?_) AllReadyH.nil)
      go_simp
      refine hK.out _ _ ?_ (fun hHeld => ?_)
      · exact q6
      clear hK K
      try simp only [List.getElem_toArray, List.getElem_cons_succ, List.getElem_cons_zero, Act.put, List.setIfInBounds_toArray, List.set_cons_zero, List.set_cons_succ]
      refine wpAnyH_take (i := 8) (v := ?_) rfl (by kernel_rfl) (by kernel_rfl) (by kernel_rfl) (fun _ _ _ h => h) (Or.inl ⟨by rfl, ?_⟩) (by assumption) ?_
      rotate_left
      · (intro w hSw; (try dsimp only at hSw); go_simp; (try with_reducible rfl))
      try simp only [List.getElem_toArray, List.getElem_cons_succ, List.getElem_cons_zero, Act.put, List.setIfInBounds_toArray, List.set_cons_zero, List.set_cons_succ]
      have hbl : Below wd.heap.size wd (wd.alloc (.cells #[.int .i64 (z + x.desc.dur)] 2)) := (Below.refl _ _).alloc (Nat.le_refl _) _
      have HO4 := Lib.hid (HO3.out.below hbl)
      have HB4 := Lib.hid (below_two HB3.out hbl)
      have hrd1 := rd_one 2 (z + x.desc.dur) wd
      have HX4 := Lib.hid (HX3.out.below hbl (SlBk.lt HX3.out))
      have q64 := HX4.out.all8.2.2.2.2.2.2.1
      refine wpAnyH_ready (rs := [9]) (by kernel_rfl) (by simp) (AllReadyH.cons rfl (fun K hK => ?_) AllReadyH.nil)
      go_simp
      clear q6 hx3
      refine hK.out _ _ ?_ (fun hHeld => ?_)
      · exact q64
      clear hK K
      try simp only [List.getElem_toArray, List.getElem_cons_succ, List.getElem_cons_zero, Act.put, List.setIfInBounds_toArray, List.set_cons_zero, List.set_cons_succ]
      refine wpAnyH_ready (rs := [10]) (by kernel_rfl) (by simp) (AllReadyH.cons rfl (fun K hK => ?_) AllReadyH.nil)
      refine app_op _ (.tmp 14) (.tmp 23) rfl w.heap.size Tryz.underlying53 info64 _ A rfl HO4.out _ 1 _ [z + x.desc.dur] rfl hrd1 (by have := HLE.out; omega) HB4.out.size ?_
      intro v5 w5 o5 g5
      have HB5 := Lib.hid (HB4.out.grown g5 HB4.out.size (fun k hk => (HO4.out.block k hk).1))
      have q65 := (HX4.out.grown g5 (ownsRow_ne HO4.out HX4.out (by decide))).all8.2.2.2.2.2.2.1
      have HO5 := Lib.hid o5; clear o5 hrd1 g5
      refine hK.out _ _ ?_ (fun hHeld => ?_)
      · exact q65
      clear hK K
      try simp only [List.getElem_toArray, List.getElem_cons_succ, List.getElem_cons_zero, Act.put, List.setIfInBounds_toArray, List.set_cons_zero, List.set_cons_succ]
      refine wpAnyH_take (i := 11) (v := ?_) rfl (by kernel_rfl) (by kernel_rfl) (by kernel_rfl) (fun _ _ _ h => h) (Or.inl ⟨by rfl, ?_⟩) (by assumption) ?_
      rotate_left
      · (intro w hSw; (try dsimp only at hSw); go_simp; (try with_reducible rfl))
      try simp only [List.getElem_toArray, List.getElem_cons_succ, List.getElem_cons_zero, Act.put, List.setIfInBounds_toArray, List.set_cons_zero, List.set_cons_succ]
      refine wpAnyH_done (by kernel_rfl) ?_ _
      clear q64 q65 HX3 HX4 HO3 HO4 HB3 HB4
      go_wp2_with fail
      go_roundw
      case rel => exact ⟨k + 1, by omega, by go_num, by rw [HNX.out]; exact HO5.out, HB5.out⟩
      case measure => simp [intOf]; omega
    · have hkn : k = n := by omega
      subst hkn
      have HB := Lib.hid hb
      rw [← HL.out, startsTo_all] at hown
      have HO := Lib.hid hown
      clear hb hown
      go_wp2_with fail
      go_ret
      exact ⟨_, rfl, HO.out, HB.out⟩
end

section
open Go.RowKit
theorem infoRw : InfoRw Tryz.prog 53 := by unfold InfoRw; kernel_rfl
def RowsOk (w : World) (base : Nat) (rows : List Value) (e : List Sl) : Prop := ∀ k, k < rows.length → Own 2 w base (rows.getD k (.slice none 0 0)) (startsL (inMode e k))
structure FillSt (w0 w W : World) (b : Nat) (v : Mv) (sv : Value) (rows : List Value) : Prop where
  lk : LkAt W b v 0 1 sv
  ow : OwnR 53 W w.heap.size sv rows
  ro : RowsOk W w.heap.size rows v.e
  g : w.grownBy W (some b)
  rd0 : RdMe w0 v
  be : Below w0.heap.size w0 W
  hb : w0.heap.size ≤ b
  sz : w0.heap.size ≤ w.heap.size
theorem rows_apart {w : World} {b1 b2 E E' s1 s2 n n' : Nat} {v v' : Value} {c c' : List Value} (h : w.ownsRow b1 E s1 v n c) (h' : w.ownsRow b2 E' s2 v' n' c') (hne : E ≠ E') : v.ownBlock = none ∨ v.ownBlock ≠ v'.ownBlock := by
  rcases h.2 with ⟨rfl, -⟩ | ⟨g, cap, cur, rfl, -, hg, -⟩
  · exact .inl rfl
  · exact .inr (fun e => ownsRow_ne h' hg hne (by simpa [Value.ownBlock] using e))
theorem row_shape {w : World} {b E s n : Nat} {v : Value} {c : List Value} (h : w.ownsRow b E s v n c) : ∃ ao n cap, v = .slice ao n cap := by
  rcases h.2 with ⟨rfl, -⟩ | ⟨g, cap, cur, rfl, -⟩
  · exact ⟨none, 0, 0, rfl⟩
  · exact ⟨_, _, _, rfl⟩
theorem row_box {w : World} {b1 E s1 n : Nat} {v : Value} {c : List Value} (h : w.ownsRow b1 E s1 v n c) {b : Nat} {u : Mv} {d l : Int} {sv : Value} (hl : LkAt w b u d l sv) (hne : 116 ≠ E) : v.ownBlock = none ∨ v.ownBlock ≠ some b := .inr (fun e => ownsRow_ne h hl hne e.symm)
section
variable {w0 w W W' : World} {b : Nat} {v : Mv} {sv : Value} {rows : List Value}
theorem FillSt.rd (h : FillSt w0 w W b v sv rows) : RdMe W v := h.rd0.below h.be
theorem FillSt.call (h : FillSt w0 w W b v sv rows) (hb : Below W.heap.size W W') : FillSt w0 w W' b v sv rows :=
  ⟨h.lk.below hb h.lk.lt, ownsRow_below h.ow hb, fun k hk => (h.ro k hk).below hb, grown_low h.g (hb.mono h.g.size), h.rd0, h.be.trans (hb.mono h.be.size), h.hb, h.sz⟩
theorem FillSt.m (h : FillSt w0 w W b v sv rows) : W.cell? ⟨b, 0, none⟩ = some (.int .i64 v.id) ∧ W.cell? ⟨b, 1, none⟩ = some (.slice v.no v.n.length v.nc) ∧ W.cell? ⟨b, 2, none⟩ = some (.slice v.mo v.cs.length v.mc) ∧ W.cell? ⟨b, 3, none⟩ = some (.slice v.eo v.e.length v.ec) := ⟨h.lk.c0, h.lk.c1, h.lk.c2, h.lk.c3⟩
theorem FillSt.app {sv' : Value} {y : Value} (h : FillSt w0 w W b v sv rows) (hy : Own 2 W w.heap.size y (startsL (inMode v.e rows.length))) (g : W.grownBy W' sv.ownBlock) (_ho : OwnR 53 W' w.heap.size sv' (rows ++ [y])) :
    (∀ k, k < (rows ++ [y]).length → Own 2 W' w.heap.size ((rows ++ [y]).getD k (.slice none 0 0)) (startsL (inMode v.e k))) ∧ LkAt W' b v 0 1 sv ∧ w.grownBy W' (some b) ∧ Below w0.heap.size w0 W' := by
  have hbl := (Below.refl w.heap.size W).grown g h.g.size (fun k hk => (World.ownsRow.lt h.ow k hk).1)
  refine ⟨fun k hk => ?_, h.lk.grown g (ownsRow_ne h.ow h.lk (by decide)), grown_low h.g hbl, ?_⟩
  · have hall : ∀ {u : Value} {xs : List Int}, Own 2 W w.heap.size u xs → Own 2 W' w.heap.size u xs := fun hu => Own.only hu g (rows_apart hu h.ow (by decide))
    rw [List.length_append, List.length_singleton] at hk
    by_cases e : k < rows.length
    · have := hall (h.ro k e)
      simpa [List.getD, List.getElem?_append_left e] using this
    · have e : k = rows.length := by omega
      subst e
      have := hall hy
      simpa [List.getD] using this
  · exact h.be.grown g h.be.size (fun k hk => Nat.le_trans h.sz (World.ownsRow.lt h.ow k hk).1)
theorem FillSt.put {y : Value} (ho : OwnR 53 W w.heap.size y rows) (hr : RowsOk W w.heap.size rows v.e) (hl : LkAt W b v 0 1 sv) (hg : w.grownBy W (some b)) (hb : Below w0.heap.size w0 W) (rd0 : RdMe w0 v) (hbb : w0.heap.size ≤ b) (hz : w0.heap.size ≤ w.heap.size) :
    FillSt w0 w (W.setCell ⟨b, 7, none⟩ y) b v y rows :=
  ⟨hl.set7 y, World.ownsRow.kept ho (grown_set' W b 7 y) (row_box ho hl (by decide)), fun k hk => Own.only (hr k hk) (grown_set' W b 7 y) (row_box (hr k hk) hl (by decide)), grown_trans hg (grown_set' W b 7 y), rd0, hb.grown (grown_set' W b 7 y) hb.size (fun k hk => by cases hk; exact hbb), hbb, hz⟩
end
set_option linter.unusedSimpArgs false in
set_option maxRecDepth 100000 in
set_option maxHeartbeats 4000000 in
theorem fillStarts_any {b : Nat} {v : Mv} (w0 w : World) (hl : LkAt w b v 0 1 (.slice none 0 0)) (hr : RdMe w0 v) (hb : Below w0.heap.size w0 w) (hbb : w0.heap.size ≤ b) (hw : Well v.me) :
    Calls Tryz.prog 103 #[.pointer (some ⟨b, 0, none⟩)] w fun e w' => e = .returned (.tuple #[]) ∧ ∃ sv rows, FillSt w0 w w' b v sv rows ∧ rows.length = v.cs.length := by
  have HS0 := Lib.hid (show FillSt w0 w w b v (.slice none 0 0) [] from ⟨hl, ⟨rfl, .inl ⟨rfl, rfl⟩⟩, fun k hk => absurd hk (by simp), ⟨rfl, rfl, rfl, Nat.le_refl _, fun _ _ _ => rfl⟩, hr, hb, hbb, hb.size⟩)
  have hml : v.cs.length ≤ 16 := by have e : v.me.modes.length = v.cs.length := mds_len v.cs; have := (isModes_iff.1 hw.r3).1.2; omega
  have HCY := Lib.hid (fun k W (hW : RdMe W v) (hk : k < v.cs.length) => cycleOf_any v k W hW hw.full hk)
  have HST := Lib.hid (fun k ao n c W (hW : RdE W ao n (inMode v.e k)) (hn : n ≤ 4096) => startsIn_any ao n c (inMode v.e k) W hW hn (cyc_dur hw))
  have HLN := Lib.hid (fun k => (show (inMode v.e k).length ≤ 4096 from Nat.le_trans (inMode_le v.e k) (Nat.le_trans (isSls_iff.1 hw.r4).1 (by omega))))
  clear hr hb hbb hw
  unfold mvVal at HCY
  have c2 := hl.c2
  clear hl
  go_enter Tryz.func103, Tryz.ntmps103
  go_wp2_with fail
  clear c2
  go_loopw [9] (fun i wr => ∃ (k : Nat) (sv : Value) (rows : List Value), k ≤ v.cs.length ∧ i = .int .i64 k ∧ Hid (FillSt w0 w wr b v sv rows) ∧ Hid (rows.length = k)) (fun i _ => v.cs.length - (intOf i).toNat)
  case atStart => exact ⟨0, _, [], Nat.zero_le _, rfl, HS0, Lib.hid rfl⟩
  case round =>
    clear HS0
    obtain ⟨k, sv, rows, hk, rfl, HF, HK⟩ := hrel
    by_cases hlt : k < v.cs.length
    · go_upto_region 3 with fail
      have HF1 := Lib.hid (HF.out.call (Below.drew (Below.refl wr.heap.size wr)))
      clear HF
      have hq := HF1.out.m
      refine wp_region_held_drew (S := fun w' => w'.cell? ⟨b, 0, none⟩ = some (.int .i64 v.id) ∧ w'.cell? ⟨b, 1, none⟩ = some (.slice v.no v.n.length v.nc) ∧ w'.cell? ⟨b, 2, none⟩ = some (.slice v.mo v.cs.length v.mc) ∧ w'.cell? ⟨b, 3, none⟩ = some (.slice v.eo v.e.length v.ec)) (by kernel_rfl) (hq) (fun hHeld => ?_)
      generalize wr.drew = wd at HF1 hq hHeld ⊢
      refine wpAnyH_take (i := 0) (v := ?_) rfl (by kernel_rfl) (by kernel_rfl) (by kernel_rfl) (fun _ _ _ h => h) (Or.inl ⟨by rfl, ?_⟩) (by assumption) ?_
      rotate_left
      · (intro w hSw; (try dsimp only at hSw); go_simp; (try with_reducible rfl))
      try simp only [List.getElem_toArray, List.getElem_cons_succ, List.getElem_cons_zero, Act.put, List.setIfInBounds_toArray, List.set_cons_zero, List.set_cons_succ]
      refine wpAnyH_take (i := 1) (v := ?_) rfl (by kernel_rfl) (by kernel_rfl) (by kernel_rfl) (fun _ _ _ h => h) (Or.inl ⟨by rfl, ?_⟩) (by assumption) ?_
      rotate_left
      · (intro w hSw; (try dsimp only at hSw); go_simp; (try with_reducible rfl))
      try simp only [List.getElem_toArray, List.getElem_cons_succ, List.getElem_cons_zero, Act.put, List.setIfInBounds_toArray, List.set_cons_zero, List.set_cons_succ]
      refine wpAnyH_take (i := 2) (v := ?_) rfl (by kernel_rfl) (by kernel_rfl) (by kernel_rfl) (fun _ _ _ h => h) (Or.inl ⟨by rfl, ?_⟩) (by assumption) ?_
      rotate_left
      · (intro w hSw; (try dsimp only at hSw); go_simp; (try with_reducible rfl))
      try simp only [List.getElem_toArray, List.getElem_cons_succ, List.getElem_cons_zero, Act.put, List.setIfInBounds_toArray, List.set_cons_zero, List.set_cons_succ]
      refine wpAnyH_take (i := 3) (v := ?_) rfl (by kernel_rfl) (by kernel_rfl) (by kernel_rfl) (fun _ _ _ h => h) (Or.inl ⟨by rfl, ?_⟩) (by assumption) ?_
      rotate_left
      · (intro w hSw; (try dsimp only at hSw); go_simp; (try with_reducible rfl))
      try simp only [List.getElem_toArray, List.getElem_cons_succ, List.getElem_cons_zero, Act.put, List.setIfInBounds_toArray, List.set_cons_zero, List.set_cons_succ]
      refine wpAnyH_take (i := 5) (v := ?_) rfl (by kernel_rfl) (by kernel_rfl) (by kernel_rfl) (fun _ _ _ h => h) (Or.inl ⟨by rfl, ?_⟩) (by assumption) ?_
      rotate_left
      · (intro w hSw; (try dsimp only at hSw); go_simp; (try with_reducible rfl))
      try simp only [List.getElem_toArray, List.getElem_cons_succ, List.getElem_cons_zero, Act.put, List.setIfInBounds_toArray, List.set_cons_zero, List.set_cons_succ]
      refine wpAnyH_take (i := 6) (v := ?_) rfl (by kernel_rfl) (by kernel_rfl) (by kernel_rfl) (fun _ _ _ h => h) (Or.inl ⟨by rfl, ?_⟩) (by assumption) ?_
      rotate_left
      · (intro w hSw; (try dsimp only at hSw); go_simp; (try with_reducible rfl))
      try simp only [List.getElem_toArray, List.getElem_cons_succ, List.getElem_cons_zero, Act.put, List.setIfInBounds_toArray, List.set_cons_zero, List.set_cons_succ]
      refine wpAnyH_take (i := 7) (v := ?_) rfl (by kernel_rfl) (by kernel_rfl) (by kernel_rfl) (fun _ _ _ h => h) (Or.inl ⟨by rfl, ?_⟩) (by assumption) ?_
      rotate_left
      · (intro w hSw; (try dsimp only at hSw); go_simp; (try with_reducible rfl))
      try simp only [List.getElem_toArray, List.getElem_cons_succ, List.getElem_cons_zero, Act.put, List.setIfInBounds_toArray, List.set_cons_zero, List.set_cons_succ]
      refine wpAnyH_take (i := 8) (v := ?_) rfl (by kernel_rfl) (by kernel_rfl) (by kernel_rfl) (fun _ _ _ h => h) (Or.inl ⟨by rfl, ?_⟩) (by assumption) ?_
      rotate_left
      · (intro w hSw; (try dsimp only at hSw); go_simp; (try with_reducible rfl))
      try simp only [List.getElem_toArray, List.getElem_cons_succ, List.getElem_cons_zero, Act.put, List.setIfInBounds_toArray, List.set_cons_zero, List.set_cons_succ]
      refine wpAnyH_take (i := 9) (v := ?_) rfl (by kernel_rfl) (by kernel_rfl) (by kernel_rfl) (fun _ _ _ h => h) (Or.inl ⟨by rfl, ?_⟩) (by assumption) ?_
      rotate_left
      · (intro w hSw; (try dsimp only at hSw); go_simp; (try with_reducible rfl))
      try simp only [List.getElem_toArray, List.getElem_cons_succ, List.getElem_cons_zero, Act.put, List.setIfInBounds_toArray, List.set_cons_zero, List.set_cons_succ]
      refine wpAnyH_ready (rs := [4, 10]) (by kernel_rfl) (by simp) (AllReadyH.cons rfl (fun K hK => ?_) (AllReadyH.cons rfl (fun K hK => ?_) (AllReadyH.nil)))
      · have c7 := HF1.out.lk.c7
        go_simp
        refine hK.out _ _ ?_ (fun hHeld => ?_)
        · exact hq
        clear hK K c7
        try simp only [List.getElem_toArray, List.getElem_cons_succ, List.getElem_cons_zero, Act.put, List.setIfInBounds_toArray, List.set_cons_zero, List.set_cons_succ]
        refine wpAnyH_ready (rs := [10]) (by kernel_rfl) (by simp) (AllReadyH.cons rfl (fun K hK => ?_) AllReadyH.nil)
        go_simp
        refine (HCY.out k _ HF1.out.rd hlt).mono ?_
        rintro e y2 ⟨so, sc, rfl, srd, -, -, b2⟩
        have HF2 := Lib.hid (HF1.out.call b2)
        have SRD := Lib.hid srd
        clear b2 hq HF1 srd
        have hq := HF2.out.m
        go_wp2_with fail
        refine hK.out _ _ ?_ (fun hHeld => ?_)
        · exact hq
        clear hK K
        try simp only [List.getElem_toArray, List.getElem_cons_succ, List.getElem_cons_zero, Act.put, List.setIfInBounds_toArray, List.set_cons_zero, List.set_cons_succ]
        refine wpAnyH_ready (rs := [11]) (by kernel_rfl) (by simp) (AllReadyH.cons rfl (fun K hK => ?_) AllReadyH.nil)
        go_simp
        refine (HST.out k _ _ _ _ SRD.out (HLN.out k)).mono ?_
        rintro e y3 ⟨rv, rfl, ro, b3⟩
        obtain ⟨ra, rc, rfl, ro2, -⟩ := ro.get
        have HF3 := Lib.hid (HF2.out.call b3)
        have HRO := Lib.hid (Own.more ro2 (show w.heap.size ≤ _ from HF2.out.g.size))
        clear b3 hq HF2 ro ro2 SRD
        have hq := HF3.out.m
        go_wp2_with fail
        refine hK.out _ _ ?_ (fun hHeld => ?_)
        · exact hq
        clear hK K
        try simp only [List.getElem_toArray, List.getElem_cons_succ, List.getElem_cons_zero, Act.put, List.setIfInBounds_toArray, List.set_cons_zero, List.set_cons_succ]
        refine wpAnyH_ready (rs := [12]) (by kernel_rfl) (by simp) (AllReadyH.cons rfl (fun K hK => ?_) AllReadyH.nil)
        have bB := (Below.refl _ _).alloc (Nat.le_refl (y3).heap.size) (.cells #[.slice ra (startsL (inMode v.e k)).length rc] 53)
        have HF4 := Lib.hid (HF3.out.call bB)
        have HR2 := Lib.hid (HRO.out.below bB)
        have hcl : (y3.alloc (.cells #[.slice ra (startsL (inMode v.e k)).length rc] 53)).cell? ⟨y3.heap.size, 0, none⟩ = some (.slice ra (startsL (inMode v.e k)).length rc) := by simp
        have hqn := HF4.out.m
        go_simp
        refine hK.out _ _ ?_ (fun hHeld => ?_)
        · exact hqn
        clear hK K hq HF3 bB HRO
        generalize y3.alloc (.cells #[.slice ra (startsL (inMode v.e k)).length rc] 53) = y4 at HF4 HR2 hcl hqn hHeld ⊢
        have hq := hqn
        clear hqn
        try simp only [List.getElem_toArray, List.getElem_cons_succ, List.getElem_cons_zero, Act.put, List.setIfInBounds_toArray, List.set_cons_zero, List.set_cons_succ]
        refine wpAnyH_ready (rs := [13]) (by kernel_rfl) (by simp) (AllReadyH.cons rfl (fun K hK => ?_) AllReadyH.nil)
        refine appRr_op _ (.tmp 16) (.tmp 24) rfl w.heap.size Tryz.underlying114 infoRw _ rows rfl HF4.out.ow _ ra _ rc _ rfl hcl (by have := HK.out; omega) HF4.out.g.size ?_
        intro v5 w5 o5 g5
        obtain ⟨ao5, n5, cap5, rfl⟩ := row_shape o5
        obtain ⟨k1, k2, k3, k4⟩ := HF4.out.app (by rw [HK.out]; exact HR2.out) g5 o5
        have HO5 := Lib.hid o5; have HK1 := Lib.hid k1; have HK3 := Lib.hid k3; have HK4 := Lib.hid k4; have HK2 := Lib.hid k2
        have HR0 := Lib.hid HF4.out.rd0; have HB0 := Lib.hid HF4.out.hb; have HZ0 := Lib.hid HF4.out.sz
        clear g5 o5 hcl HR2 HF4 hq k1 k2 k3 k4
        have hq : w5.cell? ⟨b, 0, none⟩ = some (.int .i64 v.id) ∧ w5.cell? ⟨b, 1, none⟩ = some (.slice v.no v.n.length v.nc) ∧ w5.cell? ⟨b, 2, none⟩ = some (.slice v.mo v.cs.length v.mc) ∧ w5.cell? ⟨b, 3, none⟩ = some (.slice v.eo v.e.length v.ec) := ⟨HK2.out.c0, HK2.out.c1, HK2.out.c2, HK2.out.c3⟩
        refine hK.out _ _ ?_ (fun hHeld => ?_)
        · exact hq
        clear hK K
        try simp only [List.getElem_toArray, List.getElem_cons_succ, List.getElem_cons_zero, Act.put, List.setIfInBounds_toArray, List.set_cons_zero, List.set_cons_succ]
        refine wpAnyH_take (i := 14) (v := ?_) rfl (by kernel_rfl) (by kernel_rfl) (by kernel_rfl) (fun _ _ _ h => h) (Or.inl ⟨by rfl, ?_⟩) (by assumption) ?_
        rotate_left
        · (intro w hSw; (try dsimp only at hSw); go_simp; (try with_reducible rfl))
        try simp only [List.getElem_toArray, List.getElem_cons_succ, List.getElem_cons_zero, Act.put, List.setIfInBounds_toArray, List.set_cons_zero, List.set_cons_succ]
        refine wpAnyH_take (i := 15) (v := ?_) rfl (by kernel_rfl) (by kernel_rfl) (by kernel_rfl) (fun _ _ _ h => h) (Or.inl ⟨by rfl, ?_⟩) (by assumption) ?_
        rotate_left
        · (intro w hSw; (try dsimp only at hSw); go_simp; (try with_reducible rfl))
        try simp only [List.getElem_toArray, List.getElem_cons_succ, List.getElem_cons_zero, Act.put, List.setIfInBounds_toArray, List.set_cons_zero, List.set_cons_succ]
        have HN := Lib.hid (show FillSt w0 w (w5.setCell ⟨b, 7, none⟩ (.slice ao5 n5 cap5)) b v (.slice ao5 n5 cap5) (rows ++ [.slice ra (startsL (inMode v.e k)).length rc]) from FillSt.put HO5.out HK1.out HK2.out HK3.out HK4.out HR0.out HB0.out HZ0.out)
        have c7 := HK2.out.c7
        have f7 := HK2.out.f 7
        have hqn := HN.out.m
        clear HO5 HK1 HK3 HK4 HR0 HB0 HZ0
        refine wpAnyH_ready (rs := [16]) (by kernel_rfl) (by simp) (AllReadyH.cons rfl (fun K hK => ?_) AllReadyH.nil)
        go_simp
        refine hK.out _ _ ?_ (fun hHeld => ?_)
        · exact hqn
        clear hK K
        try simp only [List.getElem_toArray, List.getElem_cons_succ, List.getElem_cons_zero, Act.put, List.setIfInBounds_toArray, List.set_cons_zero, List.set_cons_succ]
        refine wpAnyH_done (by kernel_rfl) ?_ _
        clear hq hqn c7 f7 HK2
        go_wp2_with fail
        go_roundw
        case rel => exact ⟨k + 1, _, _, by omega, by go_num, HN, Lib.hid (by rw [List.length_append, HK.out]; rfl)⟩
        case measure => simp [intOf]; omega
      · go_simp
        refine (HCY.out k _ HF1.out.rd hlt).mono ?_
        rintro e y2 ⟨so, sc, rfl, srd, -, -, b2⟩
        have HF2 := Lib.hid (HF1.out.call b2)
        have SRD := Lib.hid srd
        clear b2 hq HF1 srd
        have hq := HF2.out.m
        go_wp2_with fail
        refine hK.out _ _ ?_ (fun hHeld => ?_)
        · exact hq
        clear hK K
        try simp only [List.getElem_toArray, List.getElem_cons_succ, List.getElem_cons_zero, Act.put, List.setIfInBounds_toArray, List.set_cons_zero, List.set_cons_succ]
        refine wpAnyH_ready (rs := [4, 11]) (by kernel_rfl) (by simp) (AllReadyH.cons rfl (fun K hK => ?_) (AllReadyH.cons rfl (fun K hK => ?_) (AllReadyH.nil)))
        · have c7 := HF2.out.lk.c7
          go_simp
          refine hK.out _ _ ?_ (fun hHeld => ?_)
          · exact hq
          clear hK K c7
          try simp only [List.getElem_toArray, List.getElem_cons_succ, List.getElem_cons_zero, Act.put, List.setIfInBounds_toArray, List.set_cons_zero, List.set_cons_succ]
          refine wpAnyH_ready (rs := [11]) (by kernel_rfl) (by simp) (AllReadyH.cons rfl (fun K hK => ?_) AllReadyH.nil)
          go_simp
          refine (HST.out k _ _ _ _ SRD.out (HLN.out k)).mono ?_
          rintro e y3 ⟨rv, rfl, ro, b3⟩
          obtain ⟨ra, rc, rfl, ro2, -⟩ := ro.get
          have HF3 := Lib.hid (HF2.out.call b3)
          have HRO := Lib.hid (Own.more ro2 (show w.heap.size ≤ _ from HF2.out.g.size))
          clear b3 hq HF2 ro ro2 SRD
          have hq := HF3.out.m
          go_wp2_with fail
          refine hK.out _ _ ?_ (fun hHeld => ?_)
          · exact hq
          clear hK K
          try simp only [List.getElem_toArray, List.getElem_cons_succ, List.getElem_cons_zero, Act.put, List.setIfInBounds_toArray, List.set_cons_zero, List.set_cons_succ]
          refine wpAnyH_ready (rs := [12]) (by kernel_rfl) (by simp) (AllReadyH.cons rfl (fun K hK => ?_) AllReadyH.nil)
          have bB := (Below.refl _ _).alloc (Nat.le_refl (y3).heap.size) (.cells #[.slice ra (startsL (inMode v.e k)).length rc] 53)
          have HF4 := Lib.hid (HF3.out.call bB)
          have HR2 := Lib.hid (HRO.out.below bB)
          have hcl : (y3.alloc (.cells #[.slice ra (startsL (inMode v.e k)).length rc] 53)).cell? ⟨y3.heap.size, 0, none⟩ = some (.slice ra (startsL (inMode v.e k)).length rc) := by simp
          have hqn := HF4.out.m
          go_simp
          refine hK.out _ _ ?_ (fun hHeld => ?_)
          · exact hqn
          clear hK K hq HF3 bB HRO
          generalize y3.alloc (.cells #[.slice ra (startsL (inMode v.e k)).length rc] 53) = y4 at HF4 HR2 hcl hqn hHeld ⊢
          have hq := hqn
          clear hqn
          try simp only [List.getElem_toArray, List.getElem_cons_succ, List.getElem_cons_zero, Act.put, List.setIfInBounds_toArray, List.set_cons_zero, List.set_cons_succ]
          refine wpAnyH_ready (rs := [13]) (by kernel_rfl) (by simp) (AllReadyH.cons rfl (fun K hK => ?_) AllReadyH.nil)
          refine appRr_op _ (.tmp 16) (.tmp 24) rfl w.heap.size Tryz.underlying114 infoRw _ rows rfl HF4.out.ow _ ra _ rc _ rfl hcl (by have := HK.out; omega) HF4.out.g.size ?_
          intro v5 w5 o5 g5
          obtain ⟨ao5, n5, cap5, rfl⟩ := row_shape o5
          obtain ⟨k1, k2, k3, k4⟩ := HF4.out.app (by rw [HK.out]; exact HR2.out) g5 o5
          have HO5 := Lib.hid o5; have HK1 := Lib.hid k1; have HK3 := Lib.hid k3; have HK4 := Lib.hid k4; have HK2 := Lib.hid k2
          have HR0 := Lib.hid HF4.out.rd0; have HB0 := Lib.hid HF4.out.hb; have HZ0 := Lib.hid HF4.out.sz
          clear g5 o5 hcl HR2 HF4 hq k1 k2 k3 k4
          have hq : w5.cell? ⟨b, 0, none⟩ = some (.int .i64 v.id) ∧ w5.cell? ⟨b, 1, none⟩ = some (.slice v.no v.n.length v.nc) ∧ w5.cell? ⟨b, 2, none⟩ = some (.slice v.mo v.cs.length v.mc) ∧ w5.cell? ⟨b, 3, none⟩ = some (.slice v.eo v.e.length v.ec) := ⟨HK2.out.c0, HK2.out.c1, HK2.out.c2, HK2.out.c3⟩
          refine hK.out _ _ ?_ (fun hHeld => ?_)
          · exact hq
          clear hK K
          try simp only [List.getElem_toArray, List.getElem_cons_succ, List.getElem_cons_zero, Act.put, List.setIfInBounds_toArray, List.set_cons_zero, List.set_cons_succ]
          refine wpAnyH_take (i := 14) (v := ?_) rfl (by kernel_rfl) (by kernel_rfl) (by kernel_rfl) (fun _ _ _ h => h) (Or.inl ⟨by rfl, ?_⟩) (by assumption) ?_
          rotate_left
          · (intro w hSw; (try dsimp only at hSw); go_simp; (try with_reducible rfl))
          try simp only [List.getElem_toArray, List.getElem_cons_succ, List.getElem_cons_zero, Act.put, List.setIfInBounds_toArray, List.set_cons_zero, List.set_cons_succ]
          refine wpAnyH_take (i := 15) (v := ?_) rfl (by kernel_rfl) (by kernel_rfl) (by kernel_rfl) (fun _ _ _ h => h) (Or.inl ⟨by rfl, ?_⟩) (by assumption) ?_
          rotate_left
          · (intro w hSw; (try dsimp only at hSw); go_simp; (try with_reducible rfl))
          try simp only [List.getElem_toArray, List.getElem_cons_succ, List.getElem_cons_zero, Act.put, List.setIfInBounds_toArray, List.set_cons_zero, List.set_cons_succ]
          have HN := Lib.hid (show FillSt w0 w (w5.setCell ⟨b, 7, none⟩ (.slice ao5 n5 cap5)) b v (.slice ao5 n5 cap5) (rows ++ [.slice ra (startsL (inMode v.e k)).length rc]) from FillSt.put HO5.out HK1.out HK2.out HK3.out HK4.out HR0.out HB0.out HZ0.out)
          have c7 := HK2.out.c7
          have f7 := HK2.out.f 7
          have hqn := HN.out.m
          clear HO5 HK1 HK3 HK4 HR0 HB0 HZ0
          refine wpAnyH_ready (rs := [16]) (by kernel_rfl) (by simp) (AllReadyH.cons rfl (fun K hK => ?_) AllReadyH.nil)
          go_simp
          refine hK.out _ _ ?_ (fun hHeld => ?_)
          · exact hqn
          clear hK K
          try simp only [List.getElem_toArray, List.getElem_cons_succ, List.getElem_cons_zero, Act.put, List.setIfInBounds_toArray, List.set_cons_zero, List.set_cons_succ]
          refine wpAnyH_done (by kernel_rfl) ?_ _
          clear hq hqn c7 f7 HK2
          go_wp2_with fail
          go_roundw
          case rel => exact ⟨k + 1, _, _, by omega, by go_num, HN, Lib.hid (by rw [List.length_append, HK.out]; rfl)⟩
          case measure => simp [intOf]; omega
        · go_simp
          refine (HST.out k _ _ _ _ SRD.out (HLN.out k)).mono ?_
          rintro e y3 ⟨rv, rfl, ro, b3⟩
          obtain ⟨ra, rc, rfl, ro2, -⟩ := ro.get
          have HF3 := Lib.hid (HF2.out.call b3)
          have HRO := Lib.hid (Own.more ro2 (show w.heap.size ≤ _ from HF2.out.g.size))
          clear b3 hq HF2 ro ro2 SRD
          have hq := HF3.out.m
          go_wp2_with fail
          refine hK.out _ _ ?_ (fun hHeld => ?_)
          · exact hq
          clear hK K
          try simp only [List.getElem_toArray, List.getElem_cons_succ, List.getElem_cons_zero, Act.put, List.setIfInBounds_toArray, List.set_cons_zero, List.set_cons_succ]
          refine wpAnyH_ready (rs := [4, 12]) (by kernel_rfl) (by simp) (AllReadyH.cons rfl (fun K hK => ?_) (AllReadyH.cons rfl (fun K hK => ?_) (AllReadyH.nil)))
          · have c7 := HF3.out.lk.c7
            go_simp
            refine hK.out _ _ ?_ (fun hHeld => ?_)
            · exact hq
            clear hK K c7
            try simp only [List.getElem_toArray, List.getElem_cons_succ, List.getElem_cons_zero, Act.put, List.setIfInBounds_toArray, List.set_cons_zero, List.set_cons_succ]
            refine wpAnyH_ready (rs := [12]) (by kernel_rfl) (by simp) (AllReadyH.cons rfl (fun K hK => ?_) AllReadyH.nil)
            have bB := (Below.refl _ _).alloc (Nat.le_refl (y3).heap.size) (.cells #[.slice ra (startsL (inMode v.e k)).length rc] 53)
            have HF4 := Lib.hid (HF3.out.call bB)
            have HR2 := Lib.hid (HRO.out.below bB)
            have hcl : (y3.alloc (.cells #[.slice ra (startsL (inMode v.e k)).length rc] 53)).cell? ⟨y3.heap.size, 0, none⟩ = some (.slice ra (startsL (inMode v.e k)).length rc) := by simp
            have hqn := HF4.out.m
            go_simp
            refine hK.out _ _ ?_ (fun hHeld => ?_)
            · exact hqn
            clear hK K hq HF3 bB HRO
            generalize y3.alloc (.cells #[.slice ra (startsL (inMode v.e k)).length rc] 53) = y4 at HF4 HR2 hcl hqn hHeld ⊢
            have hq := hqn
            clear hqn
            try simp only [List.getElem_toArray, List.getElem_cons_succ, List.getElem_cons_zero, Act.put, List.setIfInBounds_toArray, List.set_cons_zero, List.set_cons_succ]
            refine wpAnyH_ready (rs := [13]) (by kernel_rfl) (by simp) (AllReadyH.cons rfl (fun K hK => ?_) AllReadyH.nil)
            refine appRr_op _ (.tmp 16) (.tmp 24) rfl w.heap.size Tryz.underlying114 infoRw _ rows rfl HF4.out.ow _ ra _ rc _ rfl hcl (by have := HK.out; omega) HF4.out.g.size ?_
            intro v5 w5 o5 g5
            obtain ⟨ao5, n5, cap5, rfl⟩ := row_shape o5
            obtain ⟨k1, k2, k3, k4⟩ := HF4.out.app (by rw [HK.out]; exact HR2.out) g5 o5
            have HO5 := Lib.hid o5; have HK1 := Lib.hid k1; have HK3 := Lib.hid k3; have HK4 := Lib.hid k4; have HK2 := Lib.hid k2
            have HR0 := Lib.hid HF4.out.rd0; have HB0 := Lib.hid HF4.out.hb; have HZ0 := Lib.hid HF4.out.sz
            clear g5 o5 hcl HR2 HF4 hq k1 k2 k3 k4
            have hq : w5.cell? ⟨b, 0, none⟩ = some (.int .i64 v.id) ∧ w5.cell? ⟨b, 1, none⟩ = some (.slice v.no v.n.length v.nc) ∧ w5.cell? ⟨b, 2, none⟩ = some (.slice v.mo v.cs.length v.mc) ∧ w5.cell? ⟨b, 3, none⟩ = some (.slice v.eo v.e.length v.ec) := ⟨HK2.out.c0, HK2.out.c1, HK2.out.c2, HK2.out.c3⟩
            refine hK.out _ _ ?_ (fun hHeld => ?_)
            · exact hq
            clear hK K
            try simp only [List.getElem_toArray, List.getElem_cons_succ, List.getElem_cons_zero, Act.put, List.setIfInBounds_toArray, List.set_cons_zero, List.set_cons_succ]
            refine wpAnyH_take (i := 14) (v := ?_) rfl (by kernel_rfl) (by kernel_rfl) (by kernel_rfl) (fun _ _ _ h => h) (Or.inl ⟨by rfl, ?_⟩) (by assumption) ?_
            rotate_left
            · (intro w hSw; (try dsimp only at hSw); go_simp; (try with_reducible rfl))
            try simp only [List.getElem_toArray, List.getElem_cons_succ, List.getElem_cons_zero, Act.put, List.setIfInBounds_toArray, List.set_cons_zero, List.set_cons_succ]
            refine wpAnyH_take (i := 15) (v := ?_) rfl (by kernel_rfl) (by kernel_rfl) (by kernel_rfl) (fun _ _ _ h => h) (Or.inl ⟨by rfl, ?_⟩) (by assumption) ?_
            rotate_left
            · (intro w hSw; (try dsimp only at hSw); go_simp; (try with_reducible rfl))
            try simp only [List.getElem_toArray, List.getElem_cons_succ, List.getElem_cons_zero, Act.put, List.setIfInBounds_toArray, List.set_cons_zero, List.set_cons_succ]
            have HN := Lib.hid (show FillSt w0 w (w5.setCell ⟨b, 7, none⟩ (.slice ao5 n5 cap5)) b v (.slice ao5 n5 cap5) (rows ++ [.slice ra (startsL (inMode v.e k)).length rc]) from FillSt.put HO5.out HK1.out HK2.out HK3.out HK4.out HR0.out HB0.out HZ0.out)
            have c7 := HK2.out.c7
            have f7 := HK2.out.f 7
            have hqn := HN.out.m
            clear HO5 HK1 HK3 HK4 HR0 HB0 HZ0
            refine wpAnyH_ready (rs := [16]) (by kernel_rfl) (by simp) (AllReadyH.cons rfl (fun K hK => ?_) AllReadyH.nil)
            go_simp
            refine hK.out _ _ ?_ (fun hHeld => ?_)
            · exact hqn
            clear hK K
            try simp only [List.getElem_toArray, List.getElem_cons_succ, List.getElem_cons_zero, Act.put, List.setIfInBounds_toArray, List.set_cons_zero, List.set_cons_succ]
            refine wpAnyH_done (by kernel_rfl) ?_ _
            clear hq hqn c7 f7 HK2
            go_wp2_with fail
            go_roundw
            case rel => exact ⟨k + 1, _, _, by omega, by go_num, HN, Lib.hid (by rw [List.length_append, HK.out]; rfl)⟩
            case measure => simp [intOf]; omega
          · have bB := (Below.refl _ _).alloc (Nat.le_refl (y3).heap.size) (.cells #[.slice ra (startsL (inMode v.e k)).length rc] 53)
            have HF4 := Lib.hid (HF3.out.call bB)
            have HR2 := Lib.hid (HRO.out.below bB)
            have hcl : (y3.alloc (.cells #[.slice ra (startsL (inMode v.e k)).length rc] 53)).cell? ⟨y3.heap.size, 0, none⟩ = some (.slice ra (startsL (inMode v.e k)).length rc) := by simp
            have hqn := HF4.out.m
            go_simp
            refine hK.out _ _ ?_ (fun hHeld => ?_)
            · exact hqn
            clear hK K hq HF3 bB HRO
            generalize y3.alloc (.cells #[.slice ra (startsL (inMode v.e k)).length rc] 53) = y4 at HF4 HR2 hcl hqn hHeld ⊢
            have hq := hqn
            clear hqn
            try simp only [List.getElem_toArray, List.getElem_cons_succ, List.getElem_cons_zero, Act.put, List.setIfInBounds_toArray, List.set_cons_zero, List.set_cons_succ]
            refine wpAnyH_ready (rs := [4]) (by kernel_rfl) (by simp) (AllReadyH.cons rfl (fun K hK => ?_) AllReadyH.nil)
            have c7 := HF4.out.lk.c7
            go_simp
            refine hK.out _ _ ?_ (fun hHeld => ?_)
            · exact hq
            clear hK K c7
            try simp only [List.getElem_toArray, List.getElem_cons_succ, List.getElem_cons_zero, Act.put, List.setIfInBounds_toArray, List.set_cons_zero, List.set_cons_succ]
            refine wpAnyH_ready (rs := [13]) (by kernel_rfl) (by simp) (AllReadyH.cons rfl (fun K hK => ?_) AllReadyH.nil)
            refine appRr_op _ (.tmp 16) (.tmp 24) rfl w.heap.size Tryz.underlying114 infoRw _ rows rfl HF4.out.ow _ ra _ rc _ rfl hcl (by have := HK.out; omega) HF4.out.g.size ?_
            intro v5 w5 o5 g5
            obtain ⟨ao5, n5, cap5, rfl⟩ := row_shape o5
            obtain ⟨k1, k2, k3, k4⟩ := HF4.out.app (by rw [HK.out]; exact HR2.out) g5 o5
            have HO5 := Lib.hid o5; have HK1 := Lib.hid k1; have HK3 := Lib.hid k3; have HK4 := Lib.hid k4; have HK2 := Lib.hid k2
            have HR0 := Lib.hid HF4.out.rd0; have HB0 := Lib.hid HF4.out.hb; have HZ0 := Lib.hid HF4.out.sz
            clear g5 o5 hcl HR2 HF4 hq k1 k2 k3 k4
            have hq : w5.cell? ⟨b, 0, none⟩ = some (.int .i64 v.id) ∧ w5.cell? ⟨b, 1, none⟩ = some (.slice v.no v.n.length v.nc) ∧ w5.cell? ⟨b, 2, none⟩ = some (.slice v.mo v.cs.length v.mc) ∧ w5.cell? ⟨b, 3, none⟩ = some (.slice v.eo v.e.length v.ec) := ⟨HK2.out.c0, HK2.out.c1, HK2.out.c2, HK2.out.c3⟩
            refine hK.out _ _ ?_ (fun hHeld => ?_)
            · exact hq
            clear hK K
            try simp only [List.getElem_toArray, List.getElem_cons_succ, List.getElem_cons_zero, Act.put, List.setIfInBounds_toArray, List.set_cons_zero, List.set_cons_succ]
            refine wpAnyH_take (i := 14) (v := ?_) rfl (by kernel_rfl) (by kernel_rfl) (by kernel_rfl) (fun _ _ _ h => h) (Or.inl ⟨by rfl, ?_⟩) (by assumption) ?_
            rotate_left
            · (intro w hSw; (try dsimp only at hSw); go_simp; (try with_reducible rfl))
            try simp only [List.getElem_toArray, List.getElem_cons_succ, List.getElem_cons_zero, Act.put, List.setIfInBounds_toArray, List.set_cons_zero, List.set_cons_succ]
            refine wpAnyH_take (i := 15) (v := ?_) rfl (by kernel_rfl) (by kernel_rfl) (by kernel_rfl) (fun _ _ _ h => h) (Or.inl ⟨by rfl, ?_⟩) (by assumption) ?_
            rotate_left
            · (intro w hSw; (try dsimp only at hSw); go_simp; (try with_reducible rfl))
            try simp only [List.getElem_toArray, List.getElem_cons_succ, List.getElem_cons_zero, Act.put, List.setIfInBounds_toArray, List.set_cons_zero, List.set_cons_succ]
            have HN := Lib.hid (show FillSt w0 w (w5.setCell ⟨b, 7, none⟩ (.slice ao5 n5 cap5)) b v (.slice ao5 n5 cap5) (rows ++ [.slice ra (startsL (inMode v.e k)).length rc]) from FillSt.put HO5.out HK1.out HK2.out HK3.out HK4.out HR0.out HB0.out HZ0.out)
            have c7 := HK2.out.c7
            have f7 := HK2.out.f 7
            have hqn := HN.out.m
            clear HO5 HK1 HK3 HK4 HR0 HB0 HZ0
            refine wpAnyH_ready (rs := [16]) (by kernel_rfl) (by simp) (AllReadyH.cons rfl (fun K hK => ?_) AllReadyH.nil)
            go_simp
            refine hK.out _ _ ?_ (fun hHeld => ?_)
            · exact hqn
            clear hK K
            try simp only [List.getElem_toArray, List.getElem_cons_succ, List.getElem_cons_zero, Act.put, List.setIfInBounds_toArray, List.set_cons_zero, List.set_cons_succ]
            refine wpAnyH_done (by kernel_rfl) ?_ _
            clear hq hqn c7 f7 HK2
            go_wp2_with fail
            go_roundw
            case rel => exact ⟨k + 1, _, _, by omega, by go_num, HN, Lib.hid (by rw [List.length_append, HK.out]; rfl)⟩
            case measure => simp [intOf]; omega
    · have hkn : k = v.cs.length := by omega
      subst hkn
      go_wp2_with fail
      go_end0
      exact ⟨rfl, _, _, HF.out, HK.out⟩
end

section
open Go.RowKit
structure LuSt (w0 W : World) (b : Nat) (v : Mv) (sv : Value) (rows : List Value) : Prop where
  lk : LkAt W b v 1 0 sv
  ow : OwnR 53 W w0.heap.size sv rows
  ro : RowsOk W w0.heap.size rows v.e
  rd0 : RdMe w0 v
  be : Below w0.heap.size w0 W
  hb : w0.heap.size ≤ b
  n : rows.length = v.cs.length
section
variable {w0 w W W' : World} {b : Nat} {v : Mv} {sv : Value} {rows : List Value}
theorem LuSt.rd (h : LuSt w0 W b v sv rows) : RdMe W v := h.rd0.below h.be
theorem LuSt.call (h : LuSt w0 W b v sv rows) (hb : Below W.heap.size W W') : LuSt w0 W' b v sv rows :=
  ⟨h.lk.below hb h.lk.lt, ownsRow_below h.ow hb, fun k hk => (h.ro k hk).below hb, h.rd0, h.be.trans (hb.mono h.be.size), h.hb, h.n⟩
theorem OwnR.more {E : Nat} {w : World} {base base' : Nat} {u : Value} {xs : List Value} (h : OwnR E w base u xs) (hb : base' ≤ base) : OwnR E w base' u xs := by
  refine ⟨h.1, ?_⟩
  rcases h.2 with h2 | ⟨g, cap, cur, e, hg, r⟩
  · exact .inl h2
  · exact .inr ⟨g, cap, cur, e, Nat.le_trans hb hg, r⟩
theorem undrewL {a c : World} {g : Option Nat} (h : a.drew.grownBy c g) : a.grownBy c g := ⟨h.os, h.tape, h.output, h.size, h.block⟩
theorem FillSt.done (h : FillSt w0 w W b v sv rows) (hn : rows.length = v.cs.length) : LuSt w0 ((W.drew.setCell ⟨b, 4, none⟩ (.int .u32 1)).setCell ⟨b, 5, none⟩ (.int .i32 0)) b v sv rows ∧ w.grownBy ((W.drew.setCell ⟨b, 4, none⟩ (.int .u32 1)).setCell ⟨b, 5, none⟩ (.int .i32 0)) (some b) := by
  have g1 : W.grownBy ((W.drew.setCell ⟨b, 4, none⟩ (.int .u32 1)).setCell ⟨b, 5, none⟩ (.int .i32 0)) (some b) :=
    undrewL (grown_trans (grown_set' W.drew b 4 (.int .u32 1)) (grown_set' _ b 5 (.int .i32 0)))
  have hl : LkAt W.drew b v 0 1 sv := h.lk
  refine ⟨⟨(hl.set4 1).set5 0, OwnR.more (World.ownsRow.kept h.ow g1 (row_box h.ow h.lk (by decide))) h.sz, fun k hk => (Own.only (h.ro k hk) g1 (row_box (h.ro k hk) h.lk (by decide))).more h.sz, h.rd0, h.be.grown g1 h.be.size (fun k hk => by cases hk; exact h.hb), h.hb, hn⟩, grown_trans h.g g1⟩
end
set_option maxRecDepth 100000 in
set_option maxHeartbeats 4000000 in
theorem doSlow_any {b : Nat} {v : Mv} (w0 w : World) (hl : LkAt w b v 0 0 (.slice none 0 0)) (hr : RdMe w0 v) (hb : Below w0.heap.size w0 w) (hbb : w0.heap.size ≤ b) (hw : Well v.me) :
    Calls Tryz.prog 132 #[.pointer (some ⟨b, 4, none⟩), .func (.func 103) #[.pointer (some ⟨b, 0, none⟩)] #[]] w fun e w' => e = .returned (.tuple #[]) ∧ ∃ sv rows, LuSt w0 w' b v sv rows ∧ w.grownBy w' (some b) := by
  have hl1 := hl.set5 1
  have c4 := hl1.c4
  have hld := run_call_load (P := Tryz.prog) Tryz.func158 (by kernel_rfl) (by kernel_rfl) (by kernel_rfl) .u32 (by kernel_rfl) (w := w.setCell ⟨b, 5, none⟩ (.int .i32 1)) (a := ⟨b, 4, none⟩) (x := 0) c4
  have hnot : ∀ (x : Bool) (w : World), (Op.unary .not (.bool x)).run Tryz.prog w = .ok (.bool (!x)) w := fun _ _ => rfl
  have hg1 := grown_set' w b 5 (.int .i32 1)
  have hb1 : Below w0.heap.size w0 (w.setCell ⟨b, 5, none⟩ (.int .i32 1)) := hb.grown hg1 hb.size (fun k hk => by cases hk; exact hbb)
  have HFILL := Lib.hid (fillStarts_any w0 (w.setCell ⟨b, 5, none⟩ (.int .i32 1)) hl1 hr hb1 hbb hw)
  have HLK := Lib.hid (on_lock ⟨b, 5, none⟩ w hl.c5 (hl.f 5))
  clear hl hr hb hbb hw hl1 hb1
  go_enter_defers Tryz.func132, Tryz.ntmps132
  go_wp2_with (go_at_call 159; refine HLK.out.mono ?_; rintro e w' ⟨rfl, rfl⟩)
  clear HLK
  go_wp2_with (first | (go_at_call 103; refine HFILL.out.mono ?_; rintro e w2 ⟨rfl, sv, rows, HF, hn⟩) | (go_at_call 131; go_in))
  clear hld c4
  refine leaves_cons (f := 161) (args := #[.pointer (some ⟨b, 4, none⟩), .bool true]) (by simp) (by simp [go_sem]) ?_
  refine (on_store ⟨b, 4, none⟩ (.int .u32 0) .returning _ HF.lk.c4 (HF.lk.f 4)).mono ?_
  rintro e u' w'' ⟨rfl, rfl, rfl⟩
  refine leaves_cons (f := 160) (args := #[.pointer (some ⟨b, 5, none⟩)]) (by simp [settle]) (by simp [go_sem]) ?_
  have hl2 : LkAt w2.drew b v 0 1 sv := HF.lk
  refine (on_unlock ⟨b, 5, none⟩ _ _ (hl2.set4 1).c5 ((hl2.set4 1).f 5)).mono ?_
  rintro e u' w'' ⟨rfl, rfl, rfl⟩
  obtain ⟨h1, h2⟩ := HF.done hn
  simp [Leaves, settle, results, Tryz.results132]
  exact ⟨⟨sv, rows, h1⟩, grown_trans hg1 h2⟩
set_option maxRecDepth 100000 in
set_option maxHeartbeats 2000000 in
theorem do_first {b : Nat} {v : Mv} (w0 w : World) (hl : LkAt w b v 0 0 (.slice none 0 0)) (hr : RdMe w0 v) (hb : Below w0.heap.size w0 w) (hbb : w0.heap.size ≤ b) (hw : Well v.me) :
    Calls Tryz.prog 102 #[.pointer (some ⟨b, 4, none⟩), .func (.func 103) #[.pointer (some ⟨b, 0, none⟩)] #[]] w fun e w' => e = .returned (.tuple #[]) ∧ ∃ sv rows, LuSt w0 w' b v sv rows ∧ w.grownBy w' (some b) := by
  have c4 := hl.c4
  have hld := run_call_load (P := Tryz.prog) Tryz.func158 (by kernel_rfl) (by kernel_rfl) (by kernel_rfl) .u32 (by kernel_rfl) c4
  have hnot : ∀ (x : Bool) (w : World), (Op.unary .not (.bool x)).run Tryz.prog w = .ok (.bool (!x)) w := fun _ _ => rfl
  have HS := Lib.hid (doSlow_any w0 w hl hr hb hbb hw)
  clear hl hr hb hbb hw
  go_enter Tryz.func102, Tryz.ntmps102
  go_wp2_with (first | (go_at_call 132; refine HS.out.mono ?_; rintro e w' ⟨rfl, sv, rows, h1, h2⟩) | (go_at_call 131; go_in))
  go_end0
  exact ⟨rfl, sv, rows, h1, h2⟩
set_option maxRecDepth 100000 in
set_option maxHeartbeats 2000000 in
theorem do_done (a : Addr) (fv : Value) (w : World) (h0 : w.cell? a = some (.int .u32 1)) :
    Calls Tryz.prog 102 #[.pointer (some a), fv] w fun e w' => e = .returned (.tuple #[]) ∧ w' = w := by
  have hld := run_call_load (P := Tryz.prog) Tryz.func158 (by kernel_rfl) (by kernel_rfl) (by kernel_rfl) .u32 (by kernel_rfl) h0
  have hnot : ∀ (x : Bool) (w : World), (Op.unary .not (.bool x)).run Tryz.prog w = .ok (.bool (!x)) w := fun _ _ => rfl
  go_enter Tryz.func102, Tryz.ntmps102
  go_wp2
  go_end0
  exact ⟨rfl, rfl⟩
def LuAny (w0 W : World) (b : Nat) (v : Mv) : Prop := (LkAt W b v 0 0 (.slice none 0 0) ∧ RdMe w0 v ∧ Below w0.heap.size w0 W ∧ w0.heap.size ≤ b) ∨ ∃ sv rows, LuSt w0 W b v sv rows
def GivesSt (w0 w : World) (b : Nat) (v : Mv) (j : Nat) (e : Ending) (w' : World) : Prop := ∃ ao c sv rows, e = .returned (.slice ao (startsL (inMode v.e j)).length c) ∧ Own 2 w' w0.heap.size (.slice ao (startsL (inMode v.e j)).length c) (startsL (inMode v.e j)) ∧ LuSt w0 w' b v sv rows ∧ w.grownBy w' (some b)
theorem LuSt.row {w0 W : World} {b : Nat} {v : Mv} {sv : Value} {rows : List Value} (h : LuSt w0 W b v sv rows) {j : Nat} (hj : j < v.cs.length) :
    ∃ g cap ao c, sv = .slice (some ⟨g, 0, none⟩) rows.length cap ∧ j < rows.length ∧ W.cell? ⟨g, j, none⟩ = some (.slice ao (startsL (inMode v.e j)).length c) ∧ Own 2 W w0.heap.size (.slice ao (startsL (inMode v.e j)).length c) (startsL (inMode v.e j)) := by
  have hjr : j < rows.length := by rw [h.n]; exact hj
  have ho := h.ro j hjr
  obtain ⟨ao, c, e, ho2, -⟩ := ho.get
  have how := h.ow
  rcases how.2 with ⟨-, h2⟩ | ⟨g, cap, cur, e2, -⟩
  · omega
  · refine ⟨g, cap, ao, c, e2, hjr, ?_, ho2⟩
    subst e2
    have := World.ownsRow.cellAt how j (by omega)
    rw [this]
    rw [← e]
    simp [List.getD, List.getElem?_eq_getElem hjr]
set_option maxRecDepth 100000 in
set_option maxHeartbeats 2000000 in
theorem startsOf_any {b j : Nat} {v : Mv} (w0 w : World) (h : LuAny w0 w b v) (hw : Well v.me) (hj : j < v.cs.length) :
    Calls Tryz.prog 67 #[.pointer (some ⟨b, 0, none⟩), .int .i64 (j : Int)] w (GivesSt w0 w b v j) := by
  have hmf : ∀ (fn : Fn) (first cap : Array Value) (w : World), (Instr.makeFunc fn first cap).run Tryz.prog w = .ok (.func fn first cap) w := fun _ _ _ _ => rfl
  have HG := Lib.hid (show Calls Tryz.prog 102 #[.pointer (some ⟨b, 4, none⟩), .func (.func 103) #[.pointer (some ⟨b, 0, none⟩)] #[]] w fun e w' => e = .returned (.tuple #[]) ∧ ∃ sv rows, LuSt w0 w' b v sv rows ∧ w.grownBy w' (some b) from by
    rcases h with ⟨hl, hr, hb, hbb⟩ | ⟨sv, rows, h⟩
    · exact do_first w0 w hl hr hb hbb hw
    · refine (do_done _ _ w h.lk.c4).mono ?_
      rintro e w' ⟨rfl, rfl⟩
      exact ⟨rfl, sv, rows, h, ⟨rfl, rfl, rfl, Nat.le_refl _, fun _ _ _ => rfl⟩⟩)
  clear h hw
  go_enter Tryz.func67, Tryz.ntmps67
  go_wp2_with fail
  refine HG.out.mono ?_
  rintro e w1 ⟨rfl, sv, rows, h1, h2⟩
  obtain ⟨g, cap, ao, c, e1, hjr, hc, ho⟩ := h1.row hj
  subst e1
  have HO := Lib.hid ho; have H1 := Lib.hid h1; have H2 := Lib.hid h2
  have c7 := h1.lk.c7
  clear h1 h2 ho HG
  go_wp2_with fail
  go_ret
  exact ⟨_, _, _, rows, rfl, HO.out, H1.out, H2.out⟩
end
end Go.Proofs.YtnbbbndfpehinaaGreat
