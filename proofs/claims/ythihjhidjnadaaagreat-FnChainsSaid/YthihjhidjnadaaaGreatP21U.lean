/-
  Contracts of the program's, the model's and the laws' functions, and plain mathematics, on which a proof of this claim stands (part U).
-/
import Derived.Laws.NewBlocks
import Derived.Test.YthihjhidjnadaaaGreatP21A
import Derived.Test.YthihjhidjnadaaaGreatP21N
import Derived.Test.YthihjhidjnadaaaGreatP21I
import Derived.Test.YthihjhidjnadaaaGreatP21M
namespace Go.Proofs.YthihjhidjnadaaaGreat
section
open Go.RowKit
theorem cell_later {w w' : World} {a : Addr} {u : Value} (hb : Below w.heap.size w w') (h : w.cell? a = some u) : w'.cell? a = some u := (hb.cell (World.block_lt_of_cell? _ _ h)).trans h
section
variable {P : Program} {E T : Nat} (w : World) {ops : Array Oper} {rest : List Oper} {o : Oper} {a : Act} {Q : Exit → Act → World → Prop} {K : Act → World → Prop}
end
def startsL (L : List Sl) : List Int := (List.range (L.length + 1)).map fun p => dursum (L.take p)
theorem startsL_len (L : List Sl) : (startsL L).length = L.length + 1 := by simp [startsL]
theorem startsL_at {L : List Sl} {p : Nat} (h : p ≤ L.length) : (startsL L).getD p 0 = dursum (L.take p) := by
  simp [startsL, List.getD, show p < L.length + 1 by omega]
def startsTo (L : List Sl) (k : Nat) : List Int := (List.range (k + 1)).map fun p => dursum (L.take p)
theorem startsTo_zero (L : List Sl) : startsTo L 0 = [0] := by simp [startsTo, dursum]
theorem startsTo_len (L : List Sl) (k : Nat) : (startsTo L k).length = k + 1 := by simp [startsTo]
theorem startsTo_all (L : List Sl) : startsTo L L.length = startsL L := rfl
theorem startsTo_at (L : List Sl) (k : Nat) : (startsTo L k).getD k 0 = dursum (L.take k) := by simp [startsTo, List.getD]
theorem startsTo_next {L : List Sl} {k : Nat} (h : k < L.length) : startsTo L (k + 1) = startsTo L k ++ [dursum (L.take k) + (slOf L k).desc.dur] := by
  unfold startsTo
  rw [List.range_succ, List.map_append, List.map_singleton, dursum_next h]
section
variable {w w' : World} {b : Nat} {v : Mv} {d l : Int} {sv : Value}
end
end

section
open Go.RowKit
section
variable {w W W' : World} {b B : Nat} {v : Mv} {d : Int} {sv : Value} {x : Ss}
end
theorem Lies.cell {v : Mv} {x : Ss} {j R S r s : Nat} (h : Lies v.me x j R S r s) {w : World} (hr : RdMe w v) : ∃ g off, v.mo = some ⟨g, off, none⟩ ∧ j < v.cs.length ∧ w.cell? ⟨g, off + j * 3, none⟩ = some (.int .i64 (R : Int)) ∧ w.cell? ⟨g, off + j * 3 + 1, none⟩ = some (.int .i64 (S : Int)) := by
  have hj : j < v.cs.length := by have e : v.me.modes.length = v.cs.length := mds_len v.cs; have := h.hj; omega
  obtain ⟨g, off, e, -, hx, -⟩ := hr.rm.at hj
  have e1 := h.hR
  have e2 := h.hS
  rw [mdOf_me] at e1 e2
  have c0 := hx.c0
  have c1 := hx.c1
  rw [e1] at c0
  rw [e2] at c1
  exact ⟨g, off, e, hj, c0, c1⟩
end

section
open Go.RowKit
set_option linter.unusedSimpArgs false in
set_option maxRecDepth 100000 in
set_option maxHeartbeats 2000000 in
theorem startsIn_any (ao : Option Addr) (n cap : Nat) (t : List Sl) (w : World) (hr : RdE w ao n t) (hn : n ≤ 4096) (hd : ∀ x ∈ t, 1 ≤ x.desc.dur ∧ x.desc.dur ≤ 1000) :
    Calls Tryz.prog 142 #[.slice ao n cap] w (Makes 2 w (startsL t)) := by
  have HL := Lib.hid hr.len
  have HR := Lib.hid hr
  have HD := Lib.hid hd
  clear hr hd
  go_enter Tryz.func142, Tryz.ntmps142
  go_wp2_with fail
  have hone := Own.one (E := 2) (base := w.heap.size) (w := w) (0 : Int) (Nat.le_refl _)
  rw [← startsTo_zero t] at hone
  have hb0 : Below w.heap.size w (w.alloc (.cells #[.int .i64 0] 2)) := (Below.refl _ _).alloc (Nat.le_refl _) _
  go_loopw [3, 9] (fun o i wr => ∃ k : Nat, k ≤ n ∧ i = .int .i64 k ∧ Own 2 wr w.heap.size o (startsTo t k) ∧ Below w.heap.size w wr) (fun _ i _ => n - (intOf i).toNat)
  case atStart => exact ⟨0, Nat.zero_le _, rfl, hone, hb0⟩
  case round =>
    clear hone hb0
    obtain ⟨k, hk, rfl, hown, hb⟩ := hrel
    by_cases hlt : k < n
    · obtain ⟨b, off, e0, hg, hx⟩ := (HR.out.below hb).at hlt
      subst e0
      have hkt : k < t.length := by rw [HL.out]; exact hlt
      have hnx := startsTo_next hkt
      have hdx := HD.out _ (slOf_mem hkt)
      have hzb := dursum_in (t := t.take k) fun x hx => HD.out x (List.mem_of_mem_take hx)
      have hat := startsTo_at t k
      have hle := startsTo_len t k
      have hzl : (t.take k).length ≤ 4096 := by rw [List.length_take]; omega
      generalize dursum (t.take k) = z at hnx hzb hat
      generalize slOf t k = x at hx hnx hdx
      have hw : IntKind.i64.wrap (z + x.desc.dur) = z + x.desc.dur := by rw [IntKind.wrap_i64]; omega
      have HNX := Lib.hid hnx
      clear hkt hnx hdx hzb hzl
      obtain ⟨A, hA⟩ : ∃ A, A = startsTo t k := ⟨_, rfl⟩
      rw [← hA] at hown hat hle HNX
      clear hA
      obtain ⟨ao1, c1, e1, -, r1⟩ := hown.get
      subst e1
      obtain ⟨g1, o1, e2, hx0⟩ := r1.here (by omega)
      have hx1 := hx0 k (by omega)
      clear hx0
      subst e2
      rw [hat] at hx1
      have hkA : k < A.length := by omega
      have HLE := Lib.hid hle
      clear hat hle r1
      obtain ⟨q0, q1, q2, q3, q4, q5, q6, q7⟩ := hx.all8
      have bal := (Below.refl wr.heap.size wr).alloc (Nat.le_refl _) (.cells #[.int .i64 x.mode, .int .i64 x.round, .int .i64 x.slot, .int .i64 x.desc.node, .int .i64 x.desc.kind, .int .i64 x.desc.size, .int .i64 x.desc.dur, .bool x.desc.chg] 65)
      have HX1 := Lib.hid (SlBk.new (T := 65) (x := x) wr)
      have HB2 := Lib.hid (below_two hb bal)
      have HO2 := Lib.hid (hown.below bal)
      have hx2 := cell_later bal hx1
      clear bal hb hown hx hx1
      go_upto_region 5 with fail
      clear q0 q1 q2 q3 q4 q5 q6 q7
      have hlt3 : wr.heap.size < (wr.alloc (.cells #[.int .i64 x.mode, .int .i64 x.round, .int .i64 x.slot, .int .i64 x.desc.node, .int .i64 x.desc.kind, .int .i64 x.desc.size, .int .i64 x.desc.dur, .bool x.desc.chg] 65)).heap.size := by simp
      generalize wr.alloc (.cells #[.int .i64 x.mode, .int .i64 x.round, .int .i64 x.slot, .int .i64 x.desc.node, .int .i64 x.desc.kind, .int .i64 x.desc.size, .int .i64 x.desc.dur, .bool x.desc.chg] 65) = w2 at HX1 HB2 HO2 hx2 hlt3 ⊢
      obtain ⟨X, hX⟩ : ∃ X, X = wr.heap.size := ⟨_, rfl⟩
      rw [← hX] at HX1 hlt3 ⊢
      clear hX
      have HX3 := Lib.hid (HX1.out.below (Below.drew (Below.refl w2.heap.size w2)) hlt3)
      have HB3 := Lib.hid (below_two HB2.out (Below.drew (Below.refl w2.heap.size w2)))
      have HO3 := Lib.hid (HO2.out.below (Below.drew (Below.refl w2.heap.size w2)))
      have hx3 : w2.drew.cell? ⟨g1, o1 + k, none⟩ = some (.int .i64 z) := hx2
      have q6 := HX3.out.all8.2.2.2.2.2.2.1
      refine wp_region_held_drew (S := fun w' => w'.cell? ⟨X, 6, none⟩ = some (.int .i64 x.desc.dur)) (by kernel_rfl) (q6) (fun hHeld => ?_)
      generalize w2.drew = wd at HX3 HB3 HO3 hx3 q6 hHeld ⊢
      refine wpAnyH_take (i := 0) (v := ?_) rfl (by kernel_rfl) (by kernel_rfl) (by kernel_rfl) (fun _ _ _ h => h) (Or.inl ⟨by rfl, ?_⟩) (by assumption) ?_
      rotate_left
      · (intro w hSw; (try dsimp only at hSw); go_simp; (try with_reducible rfl))
      try simp only [pa, pb, pc, Act.put, pe, pf, pg]
      refine wpAnyH_take (i := 1) (v := ?_) rfl (by kernel_rfl) (by kernel_rfl) (by kernel_rfl) (fun _ _ _ h => h) (Or.inl ⟨by rfl, ?_⟩) (by assumption) ?_
      rotate_left
      · (intro w hSw; (try dsimp only at hSw); go_simp; (try with_reducible rfl))
      try simp only [pa, pb, pc, Act.put, pe, pf, pg]
      refine wpAnyH_take (i := 2) (v := ?_) rfl (by kernel_rfl) (by kernel_rfl) (by kernel_rfl) (fun _ _ _ h => h) (Or.inl ⟨by rfl, ?_⟩) (by assumption) ?_
      rotate_left
      · (intro w hSw; (try dsimp only at hSw); go_simp; (try with_reducible rfl))
      try simp only [pa, pb, pc, Act.put, pe, pf, pg]
      refine wpAnyH_take (i := 3) (v := ?_) rfl (by kernel_rfl) (by kernel_rfl) (by kernel_rfl) (fun _ _ _ h => h) (Or.inl ⟨by rfl, ?_⟩) (by assumption) ?_
      rotate_left
      · (intro w hSw; (try dsimp only at hSw); go_simp; (try with_reducible rfl))
      try simp only [pa, pb, pc, Act.put, pe, pf, pg]
      refine wpAnyH_take (i := 5) (v := ?_) rfl (by kernel_rfl) (by kernel_rfl) (by kernel_rfl) (fun _ _ _ h => h) (Or.inl ⟨by rfl, ?_⟩) (by assumption) ?_
      rotate_left
      · (intro w hSw; (try dsimp only at hSw); go_simp; (try with_reducible rfl))
      try simp only [pa, pb, pc, Act.put, pe, pf, pg]
      refine wpAnyH_take (i := 6) (v := ?_) rfl (by kernel_rfl) (by kernel_rfl) (by kernel_rfl) (fun _ _ _ h => h) (Or.inl ⟨by rfl, ?_⟩) (by assumption) ?_
      rotate_left
      · (intro w hSw; (try dsimp only at hSw); go_simp; (try with_reducible rfl))
      try simp only [pa, pb, pc, Act.put, pe, pf, pg]
      refine wpAnyH_take (i := 7) (v := ?_) rfl (by kernel_rfl) (by kernel_rfl) (by kernel_rfl) (fun _ _ _ h => h) (Or.inl ⟨by rfl, ?_⟩) (by assumption) ?_
      rotate_left
      · (intro w hSw; (try dsimp only at hSw); go_simp; (try with_reducible rfl))
      try simp only [pa, pb, pc, Act.put, pe, pf, pg]
      refine wpAnyH_ready (rs := [4]) (by kernel_rfl) (by simp) (AllReadyH.cons rfl (fun K hK => ?_) AllReadyH.nil)
      go_simp
      refine hK.out _ _ ?_ (fun hHeld => ?_)
      · exact q6
      clear hK K
      try simp only [pa, pb, pc, Act.put, pe, pf, pg]
      refine wpAnyH_take (i := 8) (v := ?_) rfl (by kernel_rfl) (by kernel_rfl) (by kernel_rfl) (fun _ _ _ h => h) (Or.inl ⟨by rfl, ?_⟩) (by assumption) ?_
      rotate_left
      · (intro w hSw; (try dsimp only at hSw); go_simp; (try with_reducible rfl))
      try simp only [pa, pb, pc, Act.put, pe, pf, pg]
      have hbl : Below wd.heap.size wd (wd.alloc (.cells #[.int .i64 (z + x.desc.dur)] 2)) := (Below.refl _ _).alloc (Nat.le_refl _) _
      have HO4 := Lib.hid (HO3.out.below hbl)
      have HB4 := Lib.hid (below_two HB3.out hbl)
      have hrd1 := rd_one 2 (z + x.desc.dur) wd
      have HX4 := Lib.hid (HX3.out.below hbl (SlBk.lt HX3.out))
      have q64 := HX4.out.all8.2.2.2.2.2.2.1
      refine wpAnyH_ready (rs := [9]) (by kernel_rfl) (by simp) (AllReadyH.cons rfl (fun K hK => ?_) AllReadyH.nil)
      go_simp
      clear q6 hx3
      refine hK.out _ _ ?_ (fun hHeld => ?_)
      · exact q64
      clear hK K
      try simp only [pa, pb, pc, Act.put, pe, pf, pg]
      refine wpAnyH_ready (rs := [10]) (by kernel_rfl) (by simp) (AllReadyH.cons rfl (fun K hK => ?_) AllReadyH.nil)
      refine app_op _ (.tmp 14) (.tmp 23) rfl w.heap.size Tryz.underlying53 info64 _ A rfl HO4.out _ 1 _ [z + x.desc.dur] rfl hrd1 (by have := HLE.out; omega) HB4.out.size ?_
      intro v5 w5 o5 g5
      have HB5 := Lib.hid (HB4.out.grown g5 HB4.out.size (fun k hk => (HO4.out.block k hk).1))
      have q65 := (HX4.out.grown g5 (ownsRow_ne HO4.out HX4.out (by decide))).all8.2.2.2.2.2.2.1
      have HO5 := Lib.hid o5; clear o5 hrd1 g5
      refine hK.out _ _ ?_ (fun hHeld => ?_)
      · exact q65
      clear hK K
      try simp only [pa, pb, pc, Act.put, pe, pf, pg]
      refine wpAnyH_take (i := 11) (v := ?_) rfl (by kernel_rfl) (by kernel_rfl) (by kernel_rfl) (fun _ _ _ h => h) (Or.inl ⟨by rfl, ?_⟩) (by assumption) ?_
      rotate_left
      · (intro w hSw; (try dsimp only at hSw); go_simp; (try with_reducible rfl))
      try simp only [pa, pb, pc, Act.put, pe, pf, pg]
      refine wpAnyH_done (by kernel_rfl) ?_ _
      clear q64 q65 HX3 HX4 HO3 HO4 HB3 HB4
      go_wp2_with fail
      go_roundw
      case rel => exact ⟨k + 1, by omega, by go_num, by rw [HNX.out]; exact HO5.out, HB5.out⟩
      case measure => simp [intOf]; omega
    · have hkn : k = n := by omega
      subst hkn
      have HB := Lib.hid hb
      rw [← HL.out, startsTo_all] at hown
      have HO := Lib.hid hown
      clear hb hown
      go_wp2_with fail
      go_ret
      exact ⟨_, rfl, HO.out, HB.out⟩
end
end Go.Proofs.YthihjhidjnadaaaGreat
