/-
  Contracts of the program's, the model's and the laws' functions, and plain mathematics, on which a proof of this claim stands (part X).
-/

import Derived.Test.YtnbbbndfpehinaaGreatP16U
import Derived.Test.YtnbbbndfpehinaaGreatP16N
namespace Go.Proofs.YtnbbbndfpehinaaGreat
section
open Go.RowKit
theorem LuAny.call {w0 W W' : World} {b : Nat} {v : Mv} (h : LuAny w0 W b v) (hb : Below W.heap.size W W') : LuAny w0 W' b v := by
  rcases h with ⟨h1, h2, h3, h4⟩ | ⟨sv, rows, h⟩
  · exact .inl ⟨h1.below hb h1.lt, h2, h3.trans (hb.mono h3.size), h4⟩
  · exact .inr ⟨sv, rows, h.call hb⟩
end

section
open Go.RowKit
section
variable {P : Program} {E T : Nat} (w : World) {ops : Array Oper} {rest : List Oper} {o : Oper} {a : Act} {Q : Exit → Act → World → Prop}
theorem append_g (hgd : o.guard = none) (s x : Operand)
    (ho : o.op = .call { callee := .builtin .append, args := #[s, x], argTypes := #[T, T] })
    (base : Nat) (ht : P.underlying T = some (.slice E)) (hi : Info64 P E)
    (v : Value) (xs : List Int) (hs : a.eval s = v) (hown : Own E w base v xs) (b : Nat) (y : Int) (c : Nat) (hx : a.eval x = .slice (some ⟨b, 0, none⟩) 1 c) (hc : w.cell? ⟨b, 0, none⟩ = some (.int .i64 y))
    (hlen : xs.length ≤ 4294967296) (hbase : base ≤ w.heap.size)
    (h : ∀ v' w', Own E w' base v' (xs ++ [y]) → w.grownBy w' v.ownBlock → wpList P ops Q rest (a.put o.dst v') w') : wpList P ops Q (o :: rest) a w := by
  obtain ⟨i0, hi, hz0, hz1, hz2⟩ := info_parts hi
  refine wpList_append_own w hgd s x T ho base E i0 (.int .i64 0) 1 8 ht hi hz0 hz1 hz2 rfl (by decide) v xs.length _ hs hown ⟨b, 0, none⟩ 1 c [.int .i64 y] hx rfl ?_ ?_ (by unfold maxLen; omega) (by omega) hbase ?_
  · intro j u hj
    match j, hj with
    | 0, hj => simp at hj; subst hj; simpa [Addr.add] using hc
  · intro u hu; simp at hu; subst hu; rfl
  · intro v' w' h1 h2 _
    refine h v' w' ?_ h2
    unfold Own
    simpa using h1
end
theorem RdE.ne_lk {w : World} {g off n b : Nat} {t : List Sl} {v : Mv} {d l : Int} {sv : Value} (h : RdE w (some ⟨g, off, none⟩) n t) (hn : 0 < n) (hl : LkAt w b v d l sv) : g ≠ b := by
  rintro rfl
  obtain ⟨g', off', e, hx⟩ := h.here hn
  cases e
  have h0 := hx 0 hn
  have c1 := h0.c1
  have c7 := h0.c7
  rcases Nat.eq_zero_or_pos off with rfl | hp
  · have := hl.c1
    rw [show (0 + 0 * 8 + 1 : Nat) = 1 by omega] at c1
    rw [this] at c1
    cases c1
  · have h7 := cell_of_row w g (off + 0 * 8 + 7) _ _ (0, 0) hl
    rw [h7] at c7
    rw [Array.getElem?_eq_none (by simp; omega)] at c7
    cases c7
theorem RdE.grownL {w w' : World} {ao : Option Addr} {n b : Nat} {t : List Sl} {v : Mv} {d l : Int} {sv : Value} (h : RdE w ao n t) (hl : LkAt w b v d l sv) (hg : w.grownBy w' (some b)) : RdE w' ao n t := by
  refine ⟨h.len, fun hn => ?_⟩
  obtain ⟨g, off, e, hx⟩ := h.here hn
  subst e
  have hne : some g ≠ some b := fun e => h.ne_lk hn hl (by injection e)
  exact ⟨g, off, rfl, fun i hi => by
    have hy := hx i hi
    exact ⟨hg.cell hy.c0 hne, hg.cell hy.c1 hne, hg.cell hy.c2 hne, hg.cell hy.c3 hne, hg.cell hy.c4 hne, hg.cell hy.c5 hne, hg.cell hy.c6 hne, hg.cell hy.c7 hne⟩⟩
set_option maxRecDepth 100000 in
set_option maxHeartbeats 2000000 in
theorem startsOf_done {b j : Nat} {v : Mv} {sv : Value} {rows : List Value} (w0 w : World) (h : LuSt w0 w b v sv rows) (hj : j < v.cs.length) :
    Calls Tryz.prog 67 #[.pointer (some ⟨b, 0, none⟩), .int .i64 (j : Int)] w fun e w' => ∃ ao c, e = .returned (.slice ao (startsL (inMode v.e j)).length c) ∧ Own 2 w w0.heap.size (.slice ao (startsL (inMode v.e j)).length c) (startsL (inMode v.e j)) ∧ w = w' := by
  have hmf : ∀ (fn : Fn) (first cap : Array Value) (w : World), (Instr.makeFunc fn first cap).run Tryz.prog w = .ok (.func fn first cap) w := fun _ _ _ _ => rfl
  have HG := Lib.hid (do_done ⟨b, 4, none⟩ (.func (.func 103) #[.pointer (some ⟨b, 0, none⟩)] #[]) w h.lk.c4)
  obtain ⟨g, cap, ao, c, e1, hjr, hc, ho⟩ := h.row hj
  subst e1
  have c7 := h.lk.c7
  have HO := Lib.hid ho
  clear h ho
  go_enter Tryz.func67, Tryz.ntmps67
  go_wp2_with fail
  refine HG.out.mono ?_
  rintro e w1 ⟨rfl, rfl⟩
  clear HG
  go_wp2_with fail
  go_ret
  exact ⟨_, _, rfl, HO.out, rfl⟩
structure Apart (w W : World) (v : Mv) (sv : Value) (rows : List Value) (b base : Nat) (so : Option Addr) (o : Value) (xs : List Int) : Prop where
  lu : LuSt w W b v sv rows
  ow : Own 2 W base o xs
  b0 : base ≤ W.heap.size
  b1 : w.heap.size ≤ base
  rw_ : ∀ k, k < rows.length → ∀ g, (rows.getD k (.slice none 0 0)).ownBlock = some g → g < base
  so_ : ∀ g off, so = some ⟨g, off, none⟩ → g < base
def SdSt (w W : World) (b : Nat) (v : Mv) (so : Option Addr) (L : List Sl) (o : Value) (xs : List Int) : Prop :=
  RdE W so L.length L ∧ RdMe w v ∧ ((LkAt W b v 0 0 (.slice none 0 0) ∧ Below w.heap.size w W ∧ w.heap.size ≤ b ∧ o = .slice none 0 0 ∧ xs = []) ∨ ∃ sv rows base, Apart w W v sv rows b base so o xs)
section
variable {w W W' : World} {b base : Nat} {v : Mv} {so : Option Addr} {L : List Sl} {o o' sv : Value} {rows : List Value} {xs : List Int}
theorem Apart.call (h : Apart w W v sv rows b base so o xs) (hb : Below W.heap.size W W') : Apart w W' v sv rows b base so o xs :=
  ⟨h.lu.call hb, h.ow.below hb, Nat.le_trans h.b0 hb.size, h.b1, h.rw_, h.so_⟩
theorem SdSt.call (h : SdSt w W b v so L o xs) (hb : Below W.heap.size W W') : SdSt w W' b v so L o xs := by
  obtain ⟨h1, h2, h3⟩ := h
  refine ⟨h1.below hb, h2, ?_⟩
  rcases h3 with ⟨a1, a2, a3, a4, a5⟩ | ⟨sv, rows, base, h⟩
  · exact .inl ⟨a1.below hb a1.lt, a2.trans (hb.mono a2.size), a3, a4, a5⟩
  · exact .inr ⟨sv, rows, base, h.call hb⟩
theorem Apart.push {y : Int} (h : Apart w W v sv rows b base so o xs) (ho : Own 2 W' base o' (xs ++ [y])) (g : W.grownBy W' o.ownBlock) : Apart w W' v sv rows b base so o' (xs ++ [y]) := by
  have hge : ∀ k, o.ownBlock = some k → base ≤ k := fun k hk => (h.ow.block k hk).1
  have hl := h.lu
  refine ⟨⟨hl.lk.grown g (ownsRow_ne h.ow hl.lk (by decide)), World.ownsRow.kept hl.ow g (rows_apart hl.ow h.ow (by decide)), fun k hk => ?_, hl.rd0, hl.be.grown g hl.be.size (fun k hk => Nat.le_trans h.b1 (hge k hk)), hl.hb, hl.n⟩, ho, Nat.le_trans h.b0 g.size, h.b1, h.rw_, h.so_⟩
  refine Own.only (hl.ro k hk) g ?_
  cases he : (rows.getD k (.slice none 0 0)).ownBlock with
  | none => exact .inl rfl
  | some gg =>
    refine .inr (fun e => ?_)
    have h1 := h.rw_ k hk gg he
    have h2 := hge gg e.symm
    omega
theorem RdE.kept15 {n base : Nat} {t : List Sl} (h : RdE W so n t) {g : Option Nat} (hg : W.grownBy W' g) (hs : ∀ gg off, so = some ⟨gg, off, none⟩ → gg < base) (hge : ∀ k, g = some k → base ≤ k) : RdE W' so n t := by
  refine ⟨h.len, fun hn => ?_⟩
  obtain ⟨gg, off, e, hx⟩ := h.here hn
  have h1 := hs gg off e
  have hne : some gg ≠ g := fun e2 => by have := hge gg e2.symm; omega
  exact ⟨gg, off, e, fun i hi => by
    have hy := hx i hi
    exact ⟨hg.cell hy.c0 hne, hg.cell hy.c1 hne, hg.cell hy.c2 hne, hg.cell hy.c3 hne, hg.cell hy.c4 hne, hg.cell hy.c5 hne, hg.cell hy.c6 hne, hg.cell hy.c7 hne⟩⟩
theorem Apart.first (hs : LuSt w W' b v sv rows) (hr : RdE W so L.length L) (hl : LkAt W b v 0 0 (.slice none 0 0)) (hg : W.grownBy W' (some b)) (hn : 0 < L.length) : Apart w W' v sv rows b W'.heap.size so (.slice none 0 0) [] ∧ RdE W' so L.length L := by
  refine ⟨⟨hs, Own.nil_, Nat.le_refl _, hs.be.size, fun k hk g e => ((hs.ro k hk).block g e).2, fun g off e => ?_⟩, hr.grownL hl hg⟩
  obtain ⟨gg, off', e2, hx⟩ := hr.here hn
  rw [e] at e2
  cases e2
  exact Nat.lt_of_lt_of_le (hx 0 hn).lt hg.size
theorem ask_any {j : Nat} (h : SdSt w W b v so L o xs) (hw : Well v.me) (hj : j < v.cs.length) (hn : 0 < L.length) :
    Calls Tryz.prog 67 #[.pointer (some ⟨b, 0, none⟩), .int .i64 (j : Int)] W fun e w' => ∃ ao c sv rows base, e = .returned (.slice ao (startsL (inMode v.e j)).length c) ∧ Own 2 w' w.heap.size (.slice ao (startsL (inMode v.e j)).length c) (startsL (inMode v.e j)) ∧ Apart w w' v sv rows b base so o xs ∧ RdE w' so L.length L ∧ RdMe w v := by
  obtain ⟨h1, h2, h3⟩ := h
  rcases h3 with ⟨a1, a2, a3, rfl, rfl⟩ | ⟨sv, rows, base, h⟩
  · refine (startsOf_any w W (.inl ⟨a1, h2, a2, a3⟩) hw hj).mono ?_
    rintro e w' ⟨ao, c, sv, rows, rfl, ho, hs, hg⟩
    obtain ⟨k1, k2⟩ := Apart.first hs h1 a1 hg hn
    exact ⟨ao, c, sv, rows, _, rfl, ho, k1, k2, h2⟩
  · refine (startsOf_done w W h.lu hj).mono ?_
    rintro e w' ⟨ao, c, rfl, ho, rfl⟩
    exact ⟨ao, c, sv, rows, base, rfl, ho, h, h1, h2⟩
end
set_option linter.unusedSimpArgs false in
set_option maxRecDepth 100000 in
set_option maxHeartbeats 4000000 in
theorem sendTimes_any (v : Mv) (k d : Int) (w : World) (hr : RdMe w v) :
    Calls Tryz.prog 30 #[mvVal v, .int .i64 k, .int .i64 d] w (Makes2 2 w (sendTimes v.me k d).1 (sendTimes v.me k d).2) := by
  have HX := Lib.hid (Bx.start (T := 28) hr)
  have HC := Lib.hid (fun W hW => codeMe_any v k W hW)
  by_cases hc : codeMe v.me k = 0
  rotate_left
  · rw [show sendTimes v.me k d = ([], codeMe v.me k) from by unfold sendTimes; rw [show codeLm v.me k = codeMe v.me k from rfl, if_neg hc]]
    generalize codeMe v.me k = c at HC hc ⊢
    have hcb : (c != 0) = true := by simp [hc]
    clear hr hc
    unfold mvVal at HC ⊢
    go_enter Tryz.func30, Tryz.ntmps30
    go_upto_region 1 with fail
    generalize w.alloc (.cells #[.int .i64 v.id, .slice v.no v.n.length v.nc, .slice v.mo v.cs.length v.mc, .slice v.eo v.e.length v.ec] 28) = w1 at HX ⊢
    obtain ⟨z0, z1, z2, z3⟩ := HX.out.at_.all
    go_wp2_with fail
    refine (HC.out _ HX.out.rd).mono ?_
    rintro e w2 ⟨rfl, b2⟩
    clear z0 z1 z2 z3
    go_wp2_with fail
    go_ret2
    exact ⟨_, rfl, Own.nil_, (HX.out.call b2).below⟩
  rw [hc] at HC
  obtain ⟨j, rfl, hj, hm, -, -⟩ := codeMe_yes hc
  have hw := medl_iff.1 hm
  have hjc : j < v.cs.length := by have e : v.me.modes.length = v.cs.length := mds_len v.cs; omega
  have hsl : sendTimes v.me (j : Int) d = (if (findNode v.n d).2 = 0 then (sendTo (inMode v.e j) d (inMode v.e j).length, 0) else ([], 2)) := by
    unfold sendTimes
    rw [show codeLm v.me (j : Int) = codeMe v.me (j : Int) from rfl, if_pos hc, Int.toNat_natCast]
    rfl
  rw [hsl]
  have HFN := Lib.hid (fun W (hW : RdMe W v) => (show Calls Tryz.prog 69 #[.slice v.no v.n.length v.nc, .int .i64 d] W fun e w' => e = .returned (.tuple #[ndVal (findNode v.n d).1, .int .i64 (findNode v.n d).2]) ∧ Below W.heap.size W w' from findNode_any v.no v.n.length v.nc v.n d W hW.rn hW.nle hW.ncap hW.ns))
  obtain ⟨x, q, hfn⟩ : ∃ x q, findNode v.n d = (x, q) := ⟨_, _, rfl⟩
  rw [hfn] at HFN ⊢
  unfold ndVal at HFN
  dsimp only at HFN ⊢
  by_cases hq : q = 0
  rotate_left
  · rw [if_neg hq]
    have hqb : (q != 0) = true := by simp [hq]
    clear hsl hc hm hw hj hjc hr hq hfn
    unfold mvVal at HC ⊢
    go_enter Tryz.func30, Tryz.ntmps30
    go_upto_region 1 with fail
    generalize w.alloc (.cells #[.int .i64 v.id, .slice v.no v.n.length v.nc, .slice v.mo v.cs.length v.mc, .slice v.eo v.e.length v.ec] 28) = w1 at HX ⊢
    obtain ⟨z0, z1, z2, z3⟩ := HX.out.at_.all
    go_wp2_with fail
    refine (HC.out _ HX.out.rd).mono ?_
    rintro e w2 ⟨rfl, b2⟩
    have HX2 := Lib.hid (HX.out.call b2)
    clear z0 z1 z2 z3 b2 HX
    obtain ⟨z0, z1, z2, z3⟩ := HX2.out.at_.all
    go_wp2_with fail
    refine (HFN.out _ HX2.out.rd).mono ?_
    rintro e w3 ⟨rfl, b3⟩
    have HX3 := Lib.hid (HX2.out.call b3)
    have HX4 := Lib.hid (HX3.out.call ((Below.refl w3.heap.size w3).alloc (Nat.le_refl _) (.cells #[.int .i64 x.id, .string x.name, .int .i64 x.drift, .bool x.pas] 61)))
    clear z0 z1 z2 z3
    go_wp2_with fail
    go_ret2
    exact ⟨_, rfl, Own.nil_, HX4.out.below⟩
  rw [if_pos hq]
  subst hq
  have HCY := Lib.hid (fun W (hW : RdMe W v) => cycleOf_any v j W hW hw.full hjc)
  have HSO := Lib.hid (fun b W so o xs (hl : SdSt w W b v so (inMode v.e j) o xs) (hn : 0 < (inMode v.e j).length) => ask_any hl hw hjc hn)
  have HAT := Lib.hid (fun i (hi : i ≤ (inMode v.e j).length) => startsL_at hi)
  have hln := startsL_len (inMode v.e j)
  have hle : (inMode v.e j).length ≤ 120 := Nat.le_trans (inMode_le v.e j) (isSls_iff.1 hw.r4).1
  have HR0 := Lib.hid hr
  have HSE := Lib.hid (fun i (hi : i ≤ (inMode v.e j).length) => (by rw [sendTo_len _ _ _ hi]; exact Nat.le_trans (List.length_filter_le _ _) (by rw [List.length_take]; omega) : (sendTo (inMode v.e j) d i).length ≤ 120))
  generalize inMode v.e j = L at HCY HSO HAT hln hle HSE ⊢
  generalize startsL L = A at HSO HAT hln
  clear hsl hc hm hw hj hjc hr hfn
  unfold mvVal at HC HCY ⊢
  go_enter Tryz.func30, Tryz.ntmps30
  go_upto_region 1 with fail
  generalize w.alloc (.cells #[.int .i64 v.id, .slice v.no v.n.length v.nc, .slice v.mo v.cs.length v.mc, .slice v.eo v.e.length v.ec] 28) = w1 at HX ⊢
  obtain ⟨z0, z1, z2, z3⟩ := HX.out.at_.all
  go_wp2_with fail
  refine (HC.out _ HX.out.rd).mono ?_
  rintro e w2 ⟨rfl, b2⟩
  have HX2 := Lib.hid (HX.out.call b2)
  clear z0 z1 z2 z3 b2 HX
  obtain ⟨z0, z1, z2, z3⟩ := HX2.out.at_.all
  go_wp2_with fail
  refine (HFN.out _ HX2.out.rd).mono ?_
  rintro e w3 ⟨rfl, b3⟩
  have HX3 := Lib.hid (HX2.out.call b3)
  have HX4 := Lib.hid (HX3.out.call ((Below.refl w3.heap.size w3).alloc (Nat.le_refl _) (.cells #[.int .i64 x.id, .string x.name, .int .i64 x.drift, .bool x.pas] 61)))
  clear z0 z1 z2 z3 b3 HX2 HX3
  go_upto_region 7 with fail
  generalize w3.alloc (.cells #[.int .i64 x.id, .string x.name, .int .i64 x.drift, .bool x.pas] 61) = w4 at HX4 ⊢
  obtain ⟨z0, z1, z2, z3⟩ := HX4.out.at_.all
  have bL := (Below.refl w4.heap.size w4).alloc (Nat.le_refl _) (.cells #[.int .i64 v.id, .slice v.no v.n.length v.nc, .slice v.mo v.cs.length v.mc, .slice v.eo v.e.length v.ec, .int .u32 0, .int .i32 0, .int .u32 0, .slice none 0 0] 116)
  have HX5 := Lib.hid (HX4.out.call bL)
  have HL5 := Lib.hid (LkAt.new (v := v) (d := 0) (l := 0) (sv := .slice none 0 0) w4)
  have HZ := Lib.hid (HX4.out.below.size)
  clear bL
  go_upto_region 9 with fail
  clear z0 z1 z2 z3
  generalize w4.alloc (.cells #[.int .i64 v.id, .slice v.no v.n.length v.nc, .slice v.mo v.cs.length v.mc, .slice v.eo v.e.length v.ec, .int .u32 0, .int .i32 0, .int .u32 0, .slice none 0 0] 116) = w5 at HX5 HL5 ⊢
  obtain ⟨b, hbe⟩ : ∃ b, b = w4.heap.size := ⟨_, rfl⟩
  rw [← hbe] at HL5 HZ ⊢
  clear hbe HX4
  obtain ⟨z0, z1, z2, z3⟩ := HX5.out.at_.all
  go_wp2_with fail
  refine (HCY.out _ HX5.out.rd).mono ?_
  rintro e w6 ⟨so, sc, rfl, srd, -, -, b6⟩
  have HX6 := Lib.hid (HX5.out.call b6)
  have HS6 := Lib.hid (show SdSt w w6 b v so L (.slice none 0 0) [] from ⟨srd, HR0.out, .inl ⟨HL5.out.below b6 HL5.out.lt, HX6.out.below, HZ.out, rfl, rfl⟩⟩)
  clear z0 z1 z2 z3 b6 srd HX5 HL5 HX6
  go_wp2_with fail
  go_loopw [12, 37] (fun o i wr => ∃ k : Nat, k ≤ L.length ∧ i = .int .i64 k ∧ Hid (SdSt w wr b v so L o (sendTo L d k))) (fun _ i _ => L.length - (intOf i).toNat)
  case atStart => exact ⟨0, Nat.zero_le _, rfl, HS6⟩
  case round =>
    clear HS6
    obtain ⟨k, hk, rfl, HS⟩ := hrel
    by_cases hlt : k < L.length
    · obtain ⟨bb, off, e0, hg, hx⟩ := HS.out.1.at hlt
      have HB1 := HS
      subst e0
      have HNX := Lib.hid (show sendTo L d (k + 1) = sendTo L d k ++ (if (slOf L k).desc.node = d then [dursum (L.take k)] else []) from rfl)
      generalize slOf L k = y at hx HNX
      obtain ⟨x0, x1, x2, x3, x4, x5, x6, x7⟩ := hx.all8
      have bal := (Below.refl wr.heap.size wr).alloc (Nat.le_refl _) (.cells #[.int .i64 y.mode, .int .i64 y.round, .int .i64 y.slot, .int .i64 y.desc.node, .int .i64 y.desc.kind, .int .i64 y.desc.size, .int .i64 y.desc.dur, .bool y.desc.chg] 123)
      have HX1 := Lib.hid (SlBk.new (T := 123) (x := y) wr)
      have HB2 := Lib.hid (HS.out.call bal)
      clear bal hx HS
      go_upto_region 12 with fail
      clear x0 x1 x2 x3 x4 x5 x6 x7
      generalize wr.alloc (.cells #[.int .i64 y.mode, .int .i64 y.round, .int .i64 y.slot, .int .i64 y.desc.node, .int .i64 y.desc.kind, .int .i64 y.desc.size, .int .i64 y.desc.dur, .bool y.desc.chg] 123) = w7 at HX1 HB2 ⊢
      obtain ⟨-, -, -, x3, -, -, -, -⟩ := HX1.out.all8
      by_cases h1 : y.desc.node = d
      · have h1b : (y.desc.node == d) = true := by simp [h1]
        have HN2 := Lib.hid (HNX.out.trans (by rw [if_pos h1]))
        have HA2 := Lib.hid (HAT.out k (by omega))
        clear HNX h1
        generalize dursum (L.take k) = z at HN2 HA2
        go_wp2_with fail
        refine (HSO.out b _ _ _ _ HB2.out (by omega)).mono ?_
        rintro e w8 ⟨ao, cc, sv, rows, base, rfl, ho, hap, hrd, hrm⟩
        have HAP := Lib.hid hap; have HRD := Lib.hid hrd; have HRM := Lib.hid hrm
        obtain ⟨ao2, c2, e2, -, r2⟩ := ho.get
        obtain ⟨ga, oa, e3, hxa⟩ := r2.here (by omega)
        have e4 : ao = some ⟨ga, oa, none⟩ := by injection e2 with h1; rw [h1, e3]
        subst e4
        have hxq := hxa k (by omega)
        rw [HA2.out] at hxq
        have hkA : k < A.length := by omega
        have HLN := Lib.hid (HSE.out k (by omega))
        have bl1 := (Below.refl w8.heap.size w8).alloc (Nat.le_refl _) (.cells #[.int .i64 z] 2)
        have HAP4 := Lib.hid (HAP.out.call bl1)
        have HRD4 := Lib.hid (HRD.out.below bl1)
        have hnc : (w8.alloc (.cells #[.int .i64 z] 2)).cell? ⟨w8.heap.size, 0, none⟩ = some (.int .i64 z) := by simp
        clear hap hrd hrm ho e2 e3 r2 hxa bl1 x3
        go_wp2_with (at_builtin; refine append_g _ rfl (.tmp 47) (.tmp 54) rfl base Tryz.underlying53 info64 _ _ rfl HAP4.out.ow _ z _ rfl hnc (by have := HLN.out; omega) HAP4.out.b0 ?_; intro v9 w9 o9 g9)
        have HB5 := Lib.hid (show SdSt w w9 b v _ L v9 (sendTo L d k ++ [z]) from ⟨HRD4.out.kept15 g9 HAP4.out.so_ (fun k hk => (HAP4.out.ow.block k hk).1), HRM.out, .inr ⟨sv, rows, base, HAP4.out.push o9 g9⟩⟩)
        clear o9 g9
        go_wp2_with fail
        go_roundw
        case rel => exact ⟨k + 1, by omega, by go_num, by rw [HN2.out]; exact HB5⟩
        case measure => simp [intOf]; omega
      · have h1b : (y.desc.node == d) = false := by simp [h1]
        have HN2 := Lib.hid (HNX.out.trans (by rw [if_neg h1, List.append_nil]))
        clear HNX h1
        go_wp2_with fail
        clear x3
        go_roundw
        case rel => exact ⟨k + 1, by omega, by go_num, by rw [HN2.out]; exact HB2⟩
        case measure => simp [intOf]; omega
    · have hkn : k = L.length := by omega
      subst hkn
      go_wp2_with fail
      go_ret2
      obtain ⟨-, -, h3⟩ := HS.out
      rcases h3 with ⟨-, a2, -, a4, a5⟩ | ⟨sv, rows, base, h⟩
      · exact ⟨_, rfl, by rw [a4, a5]; exact Own.nil_, a2⟩
      · exact ⟨_, rfl, h.ow.more h.b1, h.lu.be⟩
end
end Go.Proofs.YtnbbbndfpehinaaGreat
