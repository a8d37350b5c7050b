/-
  Contracts of the program's, the model's and the laws' functions, and plain mathematics, on which a proof of this claim stands (part C).
-/

import Derived.Test.YtljdkckoelgkbaaGreatPzL
import Derived.Test.YtljdkckoelgkbaaGreatPzN
import Derived.Test.YtljdkckoelgkbaaGreatPzA
import Derived.Test.YtljdkckoelgkbaaGreatPzI
import Derived.Test.YtljdkckoelgkbaaGreatPzT
namespace Go.Proofs.YtljdkckoelgkbaaGreat
section
open Go.RowKit
theorem flatN_cells {w : World} {ao : Option Addr} {n : Nat} {u : List Nd} {ad : Addr} (hr : RdN w ao n u) (e : ao = some ad) (j : Nat) (val : Value) (h : (u.flatMap ndCells)[j]? = some val) : w.cell? (ad.add j) = some val := by
  have hj : j < u.length * 4 := by have := (List.getElem?_eq_some_iff.1 h).1; rwa [flatN_len] at this
  have hl := hr.len
  obtain ⟨b, off, e2, hc⟩ := hr.here (by omega)
  have e3 : ad = ⟨b, off, none⟩ := Option.some.inj (e.symm.trans e2)
  subst e3
  have h8 : j % 4 < 4 := by omega
  have hd : j = (j / 4) * 4 + j % 4 := by omega
  have hi := hc (j / 4) (by omega)
  rw [hd, flatN_get u (j / 4) (j % 4) (by omega) h8] at h
  rw [Addr.add_lit, hd]
  generalize ndOf u (j / 4) = x at hi h
  generalize j / 4 = q at hi
  generalize j % 4 = r at h h8
  rw [show off + (q * 4 + r) = off + q * 4 + r from by omega]
  match r, h8 with
  | 0, _ => simp [ndCells] at h; rw [← h]; exact hi.c0
  | 1, _ => simp [ndCells] at h; rw [← h]; exact hi.c1
  | 2, _ => simp [ndCells] at h; rw [← h]; exact hi.c2
  | 3, _ => simp [ndCells] at h; rw [← h]; exact hi.c3
theorem flatM_cells {w : World} {ao : Option Addr} {n : Nat} {u : List Mc} {ad : Addr} (hr : RdM w ao n u) (e : ao = some ad) (j : Nat) (val : Value) (h : (u.flatMap mcCells)[j]? = some val) : w.cell? (ad.add j) = some val := by
  have hj : j < u.length * 3 := by have := (List.getElem?_eq_some_iff.1 h).1; rwa [flatM_len] at this
  have hl := hr.len
  obtain ⟨b, off, e2, hc⟩ := hr.here (by omega)
  have e3 : ad = ⟨b, off, none⟩ := Option.some.inj (e.symm.trans e2)
  subst e3
  have h8 : j % 3 < 3 := by omega
  have hd : j = (j / 3) * 3 + j % 3 := by omega
  have hi := hc (j / 3) (by omega)
  rw [hd, flatM_get u (j / 3) (j % 3) (by omega) h8] at h
  rw [Addr.add_lit, hd]
  generalize mcOf u (j / 3) = x at hi h
  generalize j / 3 = q at hi
  generalize j % 3 = r at h h8
  rw [show off + (q * 3 + r) = off + q * 3 + r from by omega]
  match r, h8 with
  | 0, _ => simp [mcCells] at h; rw [← h]; exact hi.c0
  | 1, _ => simp [mcCells] at h; rw [← h]; exact hi.c1
  | 2, _ => simp [mcCells] at h; rw [← h]; exact hi.c2
theorem flatS_cells {w : World} {ao : Option Addr} {n : Nat} {u : List Sl} {ad : Addr} (hr : RdE w ao n u) (e : ao = some ad) (j : Nat) (val : Value) (h : (u.flatMap slCells)[j]? = some val) : w.cell? (ad.add j) = some val := by
  have hj : j < u.length * 8 := by have := (List.getElem?_eq_some_iff.1 h).1; rwa [flatE_len] at this
  have hl := hr.len
  obtain ⟨b, off, e2, hc⟩ := hr.here (by omega)
  have e3 : ad = ⟨b, off, none⟩ := Option.some.inj (e.symm.trans e2)
  subst e3
  have h8 : j % 8 < 8 := by omega
  have hd : j = (j / 8) * 8 + j % 8 := by omega
  have hi := hc (j / 8) (by omega)
  rw [hd, flatE_get u (j / 8) (j % 8) (by omega) h8] at h
  rw [Addr.add_lit, hd]
  generalize slOf u (j / 8) = x at hi h
  generalize j / 8 = q at hi
  generalize j % 8 = r at h h8
  rw [show off + (q * 8 + r) = off + q * 8 + r from by omega]
  match r, h8 with
  | 0, _ => simp [slCells] at h; rw [← h]; exact hi.c0
  | 1, _ => simp [slCells] at h; rw [← h]; exact hi.c1
  | 2, _ => simp [slCells] at h; rw [← h]; exact hi.c2
  | 3, _ => simp [slCells] at h; rw [← h]; exact hi.c3
  | 4, _ => simp [slCells] at h; rw [← h]; exact hi.c4
  | 5, _ => simp [slCells] at h; rw [← h]; exact hi.c5
  | 6, _ => simp [slCells] at h; rw [← h]; exact hi.c6
  | 7, _ => simp [slCells] at h; rw [← h]; exact hi.c7
section
variable {P : Program} {E T : Nat} (w : World) {ops : Array Oper} {rest : List Oper} {o : Oper} {a : Act} {Q : Exit → Act → World → Prop} {K : Act → World → Prop}
theorem appR_op (s x : Operand) (ho : o.op = .call { callee := .builtin .append, args := #[s, x], argTypes := #[T, T] })
    (base : Nat) (ht : P.underlying T = some (.slice E)) (z : Value) (sz by_ : Nat) (hi : (P.info? E).map (fun i => (i.zero, i.size, i.bytes)) = some (some z, sz, by_)) (hzs : z.cells.size = sz) (hpos : 0 < sz)
    (v : Value) (n0 : Nat) (cs0 : List Value) (hs : a.eval s = v) (hown : w.ownsRow base E sz v n0 cs0) (ao : Option Addr) (n c : Nat) (news : List Value) (hx : a.eval x = .slice ao n c) (hnil : ao = none → n = 0)
    (hl : news.length = n * sz) (hnews : ∀ ad, ao = some ad → ∀ j u, news[j]? = some u → w.cell? (ad.add j) = some u) (h1 : ∀ u ∈ news, u.oneCell' = true)
    (hlen : n0 + n ≤ maxLen) (hby : (n0 + n) * by_ ≤ 140737488355328) (hbase : base ≤ w.heap.size)
    (h : ∀ v' w', w'.ownsRow base E sz v' (n0 + n) (cs0 ++ news) → w.grownBy w' v.ownBlock → K (a.put o.dst v') w') : o.wp P a w K Q := by
  obtain ⟨i0, hi0, hz0, hz1, hz2⟩ : ∃ i, P.info? E = some i ∧ i.zero = some z ∧ i.size = sz ∧ i.bytes = by_ := by
    cases hq : P.info? E with
    | none => rw [hq] at hi; cases hi
    | some i =>
      rw [hq] at hi
      simp only [Option.map_some, Option.some.injEq, Prod.mk.injEq] at hi
      exact ⟨i, rfl, hi.1, hi.2.1, hi.2.2⟩
  rcases ao with _ | ad
  · have hn := hnil rfl
    subst hn
    have hys : news = [] := List.length_eq_zero_iff.1 (by simpa using hl)
    subst hys
    have hrun : (Builtin.append_ #[T, T] o.type #[v, .slice none 0 c]).run P w = .ok v w := by
      have hown0 := hown
      rcases hown0.2 with ⟨rfl, _⟩ | ⟨g, cap, cur, rfl, _, _, hnc, _⟩
      · simp [Builtin.append_, run_underlying ht, sizeOf, typeInfo, hi0, Builtin.lenOf, Builtin.firstCells]
      · simp [Builtin.append_, run_underlying ht, sizeOf, typeInfo, hi0, Builtin.lenOf, Builtin.firstCells, hnc, storeCells]
    unfold Oper.wp
    simp [execOp, ho, resolve, invoke, builtin, hs, hx, hrun, Result.andThen]
    exact h v w (by simpa using hown) (grown_of_b (Below.refl _ _) _)
  · refine wp_append_own w s x T ho base E i0 z sz by_ ht hi0 hz0 hz1 hz2 hzs hpos v n0 cs0 hs hown ad n c news hx hl (hnews ad rfl) h1 hlen hby hbase ?_
    intro v' w' g1 g2 _
    exact h v' w' g1 g2
theorem appR_list (hgd : o.guard = none) (s x : Operand) (ho : o.op = .call { callee := .builtin .append, args := #[s, x], argTypes := #[T, T] })
    (base : Nat) (ht : P.underlying T = some (.slice E)) (z : Value) (sz by_ : Nat) (hi : (P.info? E).map (fun i => (i.zero, i.size, i.bytes)) = some (some z, sz, by_)) (hzs : z.cells.size = sz) (hpos : 0 < sz)
    (v : Value) (n0 : Nat) (cs0 : List Value) (hs : a.eval s = v) (hown : w.ownsRow base E sz v n0 cs0) (ao : Option Addr) (n c : Nat) (news : List Value) (hx : a.eval x = .slice ao n c) (hnil : ao = none → n = 0)
    (hl : news.length = n * sz) (hnews : ∀ ad, ao = some ad → ∀ j u, news[j]? = some u → w.cell? (ad.add j) = some u) (h1 : ∀ u ∈ news, u.oneCell' = true)
    (hlen : n0 + n ≤ maxLen) (hby : (n0 + n) * by_ ≤ 140737488355328) (hbase : base ≤ w.heap.size)
    (h : ∀ v' w', w'.ownsRow base E sz v' (n0 + n) (cs0 ++ news) → w.grownBy w' v.ownBlock → wpList P ops Q rest (a.put o.dst v') w') : wpList P ops Q (o :: rest) a w :=
  wpList_plain hgd fun _ hK => appR_op w s x ho base ht z sz by_ hi hzs hpos v n0 cs0 hs hown ao n c news hx hnil hl hnews h1 hlen hby hbase fun v' w' g1 g2 => hK _ _ (h v' w' g1 g2)
end
theorem one_nd {t : List Nd} : ∀ u ∈ t.flatMap ndCells, u.oneCell' = true := fun u hu => by
  obtain ⟨y, -, hy⟩ := List.mem_flatMap.1 hu
  simp [ndCells] at hy; rcases hy with rfl | rfl | rfl | rfl <;> rfl
theorem one_mc {t : List Mc} : ∀ u ∈ t.flatMap mcCells, u.oneCell' = true := fun u hu => by
  obtain ⟨y, -, hy⟩ := List.mem_flatMap.1 hu
  simp [mcCells] at hy; rcases hy with rfl | rfl | rfl <;> rfl
theorem one_sl {t : List Sl} : ∀ u ∈ t.flatMap slCells, u.oneCell' = true := fun u hu => by
  obtain ⟨y, -, hy⟩ := List.mem_flatMap.1 hu
  simp [slCells] at hy; rcases hy with rfl | rfl | rfl | rfl | rfl | rfl | rfl | rfl <;> rfl
theorem nil_nd {w : World} {ao : Option Addr} {n : Nat} {t : List Nd} (h : RdN w ao n t) (e : ao = none) : n = 0 := by
  rcases Nat.eq_zero_or_pos n with h0 | h0
  · exact h0
  · obtain ⟨_, _, e2, _⟩ := h.here h0; rw [e] at e2; cases e2
theorem nil_mc {w : World} {ao : Option Addr} {n : Nat} {t : List Mc} (h : RdM w ao n t) (e : ao = none) : n = 0 := by
  rcases Nat.eq_zero_or_pos n with h0 | h0
  · exact h0
  · obtain ⟨_, _, e2, _⟩ := h.here h0; rw [e] at e2; cases e2
theorem nil_sl {w : World} {ao : Option Addr} {n : Nat} {t : List Sl} (h : RdE w ao n t) (e : ao = none) : n = 0 := by
  rcases Nat.eq_zero_or_pos n with h0 | h0
  · exact h0
  · obtain ⟨_, _, e2, _⟩ := h.here h0; rw [e] at e2; cases e2
theorem nil_int {w : World} {ao : Option Addr} {n : Nat} {t : List Int} (h : Rd w ao n t) (e : ao = none) : n = 0 := by
  rcases Nat.eq_zero_or_pos n with h0 | h0
  · exact h0
  · obtain ⟨_, _, e2, _⟩ := h.here h0; rw [e] at e2; cases e2
theorem infoN13 : (Tryz.prog.info? 89).map (fun i => (i.zero, i.size, i.bytes)) = some (some (ndVal Nd.zero), 4, 40) := by kernel_rfl
theorem infoM13 : (Tryz.prog.info? 37).map (fun i => (i.zero, i.size, i.bytes)) = some (some (mcVal Mc.zero), 3, 40) := by kernel_rfl
theorem infoE13 : (Tryz.prog.info? 74).map (fun i => (i.zero, i.size, i.bytes)) = some (some (slVal Sl.zero), 8, 64) := by kernel_rfl
set_option maxRecDepth 100000 in
set_option maxHeartbeats 2000000 in
theorem cloneN13_any (ao : Option Addr) (n cap : Nat) (t : List Nd) (w : World) (hr : RdN w ao n t) (hn : n ≤ 1048576) :
    Calls Tryz.prog 122 #[.slice ao n cap] w (MakesN EN w t) := by
  rcases ao with _ | ad
  · have h0 := nil_nd hr rfl
    subst h0
    have ht : t = [] := List.length_eq_zero_iff.1 hr.len
    subst ht
    have hrun : (Sem.run Tryz.prog (binOp BinOp.eql 24 (Value.slice none 0 cap) (Value.slice none 0 0)) w) = .ok (.bool true) w := by kernel_rfl
    go_enter Tryz.func122, Tryz.ntmps122
    go_wp2
    go_ret
    exact ⟨_, rfl, OwnN.nil_, Below.refl _ _⟩
  have HR := Lib.hid hr; clear hr
  have hrun : (Sem.run Tryz.prog (binOp BinOp.eql 24 (Value.slice (some ad) n cap) (Value.slice none 0 0)) w) = .ok (.bool false) w := by kernel_rfl
  go_enter Tryz.func122, Tryz.ntmps122
  go_wp2_with (at_builtin; refine appR_list _ rfl (.tmp 5) (.tmp 6) rfl w.heap.size Tryz.underlying24 (ndVal Nd.zero) 4 40 infoN13 rfl (by decide) _ 0 [] rfl (World.ownsRow_made w #[] 0 (Nat.le_refl _) (by unfold maxLen; omega) rfl) (some ad) n cap (t.flatMap ndCells) rfl (fun e => by cases e) (by rw [flatN_len, HR.out.len]) (fun ad' e => flatN_cells (HR.out.below ((Below.refl _ _).alloc (Nat.le_refl _) _)) e) one_nd (by unfold maxLen; omega) (by omega) (by simp) ?_; intro v1 w1 o1 g1)
  go_ret
  rw [Nat.zero_add, List.nil_append] at o1
  have b1 : Below w.heap.size w w1 := ((Below.refl w.heap.size w).alloc (Nat.le_refl _) (.cells #[] 89)).grown g1 (by simp) (fun k hk => by cases hk; exact Nat.le_refl _)
  exact ⟨_, rfl, by unfold OwnN; rw [HR.out.len]; exact o1, b1⟩
set_option maxRecDepth 100000 in
set_option maxHeartbeats 2000000 in
theorem cloneE13_any (ao : Option Addr) (n cap : Nat) (t : List Sl) (w : World) (hr : RdE w ao n t) (hn : n ≤ 1048576) :
    Calls Tryz.prog 124 #[.slice ao n cap] w (MakesE ES w t) := by
  rcases ao with _ | ad
  · have h0 := nil_sl hr rfl
    subst h0
    have ht : t = [] := List.length_eq_zero_iff.1 hr.len
    subst ht
    have hrun : (Sem.run Tryz.prog (binOp BinOp.eql 26 (Value.slice none 0 cap) (Value.slice none 0 0)) w) = .ok (.bool true) w := by kernel_rfl
    go_enter Tryz.func124, Tryz.ntmps124
    go_wp2
    go_ret
    exact ⟨_, rfl, OwnE.nil_, Below.refl _ _⟩
  have HR := Lib.hid hr; clear hr
  have hrun : (Sem.run Tryz.prog (binOp BinOp.eql 26 (Value.slice (some ad) n cap) (Value.slice none 0 0)) w) = .ok (.bool false) w := by kernel_rfl
  go_enter Tryz.func124, Tryz.ntmps124
  go_wp2_with (at_builtin; refine appR_list _ rfl (.tmp 5) (.tmp 6) rfl w.heap.size Tryz.underlying26 (slVal Sl.zero) 8 64 infoE13 rfl (by decide) _ 0 [] rfl (World.ownsRow_made w #[] 0 (Nat.le_refl _) (by unfold maxLen; omega) rfl) (some ad) n cap (t.flatMap slCells) rfl (fun e => by cases e) (by rw [flatE_len, HR.out.len]) (fun ad' e => flatS_cells (HR.out.below ((Below.refl _ _).alloc (Nat.le_refl _) _)) e) one_sl (by unfold maxLen; omega) (by omega) (by simp) ?_; intro v1 w1 o1 g1)
  go_ret
  rw [Nat.zero_add, List.nil_append] at o1
  have b1 : Below w.heap.size w w1 := ((Below.refl w.heap.size w).alloc (Nat.le_refl _) (.cells #[] 74)).grown g1 (by simp) (fun k hk => by cases hk; exact Nat.le_refl _)
  exact ⟨_, rfl, by unfold OwnE; rw [HR.out.len]; exact o1, b1⟩
set_option maxRecDepth 100000 in
set_option maxHeartbeats 2000000 in
theorem cloneM13_any (ao : Option Addr) (n cap : Nat) (t : List Mc) (w : World) (hr : RdM w ao n t) (hn : n ≤ 1048576) :
    Calls Tryz.prog 123 #[.slice ao n cap] w (fun e w' => ∃ v, e = .returned v ∧ w'.ownsRow w.heap.size EM 3 v n (t.flatMap mcCells) ∧ Below w.heap.size w w') := by
  rcases ao with _ | ad
  · have h0 := nil_mc hr rfl
    subst h0
    have ht : t = [] := List.length_eq_zero_iff.1 hr.len
    subst ht
    have hrun : (Sem.run Tryz.prog (binOp BinOp.eql 25 (Value.slice none 0 cap) (Value.slice none 0 0)) w) = .ok (.bool true) w := by kernel_rfl
    go_enter Tryz.func123, Tryz.ntmps123
    go_wp2
    go_ret
    exact ⟨_, rfl, World.ownsRow_nil _ _ _ _, Below.refl _ _⟩
  have HR := Lib.hid hr; clear hr
  have hrun : (Sem.run Tryz.prog (binOp BinOp.eql 25 (Value.slice (some ad) n cap) (Value.slice none 0 0)) w) = .ok (.bool false) w := by kernel_rfl
  go_enter Tryz.func123, Tryz.ntmps123
  go_wp2_with (at_builtin; refine appR_list _ rfl (.tmp 5) (.tmp 6) rfl w.heap.size Tryz.underlying25 (mcVal Mc.zero) 3 40 infoM13 rfl (by decide) _ 0 [] rfl (World.ownsRow_made w #[] 0 (Nat.le_refl _) (by unfold maxLen; omega) rfl) (some ad) n cap (t.flatMap mcCells) rfl (fun e => by cases e) (by rw [flatM_len, HR.out.len]) (fun ad' e => flatM_cells (HR.out.below ((Below.refl _ _).alloc (Nat.le_refl _) _)) e) one_mc (by unfold maxLen; omega) (by omega) (by simp) ?_; intro v1 w1 o1 g1)
  go_ret
  rw [Nat.zero_add, List.nil_append] at o1
  have b1 : Below w.heap.size w w1 := ((Below.refl w.heap.size w).alloc (Nat.le_refl _) (.cells #[] 37)).grown g1 (by simp) (fun k hk => by cases hk; exact Nat.le_refl _)
  exact ⟨_, rfl, o1, b1⟩
set_option maxRecDepth 100000 in
set_option maxHeartbeats 2000000 in
theorem cloneI13_any (ao : Option Addr) (n cap : Nat) (t : List Int) (w : World) (hr : Rd w ao n t) (hn : n ≤ 1048576) :
    Calls Tryz.prog 125 #[.slice ao n cap] w (Makes 2 w t) := by
  rcases ao with _ | ad
  · have h0 := nil_int hr rfl
    subst h0
    have ht : t = [] := List.length_eq_zero_iff.1 hr.len
    subst ht
    have hrun : (Sem.run Tryz.prog (binOp BinOp.eql 35 (Value.slice none 0 cap) (Value.slice none 0 0)) w) = .ok (.bool true) w := by kernel_rfl
    go_enter Tryz.func125, Tryz.ntmps125
    go_wp2
    go_ret
    exact ⟨_, rfl, Own.nil_, Below.refl _ _⟩
  have HR := Lib.hid hr; clear hr
  have hrun : (Sem.run Tryz.prog (binOp BinOp.eql 35 (Value.slice (some ad) n cap) (Value.slice none 0 0)) w) = .ok (.bool false) w := by kernel_rfl
  go_enter Tryz.func125, Tryz.ntmps125
  go_wp2_with (at_builtin; refine append_list _ rfl (.tmp 5) (.tmp 6) rfl w.heap.size Tryz.underlying35 info64 _ [] rfl (Own.of_alloc_nil (Nat.le_refl _)) _ _ _ t rfl (HR.out.below ((Below.refl _ _).alloc (Nat.le_refl _) _)) (by simp; omega) (by simp) ?_; intro v1 w1 o1 b1)
  go_ret
  exact ⟨_, rfl, o1, ((Below.refl _ _).alloc (Nat.le_refl _) _).trans b1⟩
end

section
open Go.RowKit
structure CpSt (w W : World) (v : Mv) : Prop where
  box : MvAt 28 W w.heap.size v
  res : MvAt 28 W (w.heap.size + 1) Mv.zero
  rd : RdMe W v
  below : Below w.heap.size w W
theorem CpSt.start {w : World} {v : Mv} (h : RdMe w v) : CpSt w ((w.alloc (.cells #[.int .i64 v.id, .slice v.no v.n.length v.nc, .slice v.mo v.cs.length v.mc, .slice v.eo v.e.length v.ec] 28)).alloc (.cells #[.int .i64 0, .slice none 0 0, .slice none 0 0, .slice none 0 0] 28)) v := by
  have b1 : Below w.heap.size w (w.alloc (.cells #[.int .i64 v.id, .slice v.no v.n.length v.nc, .slice v.mo v.cs.length v.mc, .slice v.eo v.e.length v.ec] 28)) := (Below.refl _ _).alloc (Nat.le_refl _) _
  have b2 : Below (w.alloc (.cells #[.int .i64 v.id, .slice v.no v.n.length v.nc, .slice v.mo v.cs.length v.mc, .slice v.eo v.e.length v.ec] 28)).heap.size (w.alloc (.cells #[.int .i64 v.id, .slice v.no v.n.length v.nc, .slice v.mo v.cs.length v.mc, .slice v.eo v.e.length v.ec] 28)) ((w.alloc (.cells #[.int .i64 v.id, .slice v.no v.n.length v.nc, .slice v.mo v.cs.length v.mc, .slice v.eo v.e.length v.ec] 28)).alloc (.cells #[.int .i64 0, .slice none 0 0, .slice none 0 0, .slice none 0 0] 28)) := (Below.refl _ _).alloc (Nat.le_refl _) _
  have h1 : MvAt 28 ((w.alloc (.cells #[.int .i64 v.id, .slice v.no v.n.length v.nc, .slice v.mo v.cs.length v.mc, .slice v.eo v.e.length v.ec] 28)).alloc (.cells #[.int .i64 0, .slice none 0 0, .slice none 0 0, .slice none 0 0] 28)) (w.alloc (.cells #[.int .i64 v.id, .slice v.no v.n.length v.nc, .slice v.mo v.cs.length v.mc, .slice v.eo v.e.length v.ec] 28)).heap.size Mv.zero := MvAt.new (v := Mv.zero) (w.alloc (.cells #[.int .i64 v.id, .slice v.no v.n.length v.nc, .slice v.mo v.cs.length v.mc, .slice v.eo v.e.length v.ec] 28))
  rw [World.size_alloc] at h1
  exact ⟨(MvAt.new w).below b2 (by simp), h1, (h.below b1).below b2, below_two b1 b2⟩
theorem CpSt.call {w W W' : World} {v : Mv} (h : CpSt w W v) (b : Below W.heap.size W W') : CpSt w W' v := ⟨h.box.below b h.box.lt, h.res.below b h.res.lt, h.rd.below b, below_two h.below b⟩
theorem CpSt.high {w W W' : World} {v : Mv} (h : CpSt w W v) (hr : RdMe w v) (b : Below (w.heap.size + 2) W W') : CpSt w W' v := by
  have b2 := h.below.trans (b.mono (by omega))
  exact ⟨h.box.below b (by omega), h.res.below b (by omega), hr.below b2, b2⟩
theorem CpSt.lt2 {w W : World} {v : Mv} (h : CpSt w W v) : w.heap.size + 2 ≤ W.heap.size := h.res.lt
structure CpMid (w W : World) (v : Mv) (J : Nat) (a1 : Option Addr) (c1 : Nat) (a2 : Option Addr) (c2 : Nat) (a3 : Option Addr) (c3 : Nat) (ds : List Mc) (k : Nat) : Prop where
  st : CpSt w W v
  var : MvAt 28 W J ⟨v.id, v.n, a1, c1, v.cs, a2, c2, v.e, a3, c3⟩
  lo : w.heap.size + 2 ≤ J
  n : OwnN EN W (w.heap.size + 2) (.slice a1 v.n.length c1) v.n
  m : W.ownsRow (w.heap.size + 2) EM 3 (.slice a2 v.cs.length c2) v.cs.length ((ds ++ v.cs.drop k).flatMap mcCells)
  e : OwnE ES W (w.heap.size + 2) (.slice a3 v.e.length c3) v.e
  dl : ds.length = k
  md : mds ds = mds (v.cs.take k)
  nx : ∀ d ∈ ds, Own EI W (w.heap.size + 2) d.v d.md.next
  apart : ds.Pairwise fun p q => ∀ b, p.v.ownBlock = some b → q.v.ownBlock ≠ some b
section
variable {w W W' : World} {v : Mv} {J : Nat} {a1 : Option Addr} {c1 : Nat} {a2 : Option Addr} {c2 : Nat} {a3 : Option Addr} {c3 : Nat} {ds : List Mc} {k : Nat}
theorem CpMid.call (h : CpMid w W v J a1 c1 a2 c2 a3 c3 ds k) (b : Below W.heap.size W W') : CpMid w W' v J a1 c1 a2 c2 a3 c3 ds k :=
  ⟨h.st.call b, h.var.below b h.var.lt, h.lo, h.n.below b, ownsRow_below h.m b, h.e.below b, h.dl, h.md, fun d hd => (h.nx d hd).below b, h.apart⟩
theorem mcOf_appd {ds cs : List Mc} {k : Nat} (hl : ds.length = k) : mcOf (ds ++ cs.drop k) k = mcOf cs k := by
  subst hl
  unfold mcOf List.getD
  rw [List.getElem?_append_right (Nat.le_refl _), Nat.sub_self, List.getElem?_drop, Nat.add_zero]
theorem CpMid.store (h : CpMid w W v J a1 c1 a2 c2 a3 c3 ds k) (hr : RdMe w v) (hk : k < v.cs.length) {x : Mc} (hx : mcOf v.cs k = x) {ao : Option Addr} {cp : Nat} (o : Own EI W (w.heap.size + 2) (.slice ao x.md.next.length cp) x.md.next)
    (ha : ∀ d ∈ ds, ∀ b, d.v.ownBlock = some b → (Value.slice ao x.md.next.length cp).ownBlock ≠ some b) :
    ∃ g, a2 = some ⟨g, 0, none⟩ ∧ W.frozen? ⟨g, k * 3 + 2, none⟩ = false ∧ (∃ u, W.cell? ⟨g, k * 3 + 2, none⟩ = some u) ∧ CpMid w (W.setCell ⟨g, k * 3 + 2, none⟩ (.slice ao x.md.next.length cp)) v J a1 c1 a2 c2 a3 c3 (ds ++ [⟨x.md, ao, cp⟩]) (k + 1) := by
  rcases h.m.2 with ⟨e0, h0⟩ | ⟨g, cap, cur, e0, hg, -⟩
  · omega
  have e1 : a2 = some ⟨g, 0, none⟩ := by cases e0; rfl
  subst e1
  have hl : (ds ++ v.cs.drop k).length = v.cs.length := by rw [List.length_append, List.length_drop, h.dl]; omega
  have hat : mcOf (ds ++ v.cs.drop k) k = x := by
    rw [← hx]
    exact mcOf_appd h.dl
  obtain ⟨hf, hrow⟩ := rowM_field (j := 2) (u := .slice ao x.md.next.length cp) (y := ⟨x.md, ao, cp⟩) h.m hl hk (by omega) (by rw [hat]; rfl)
  have hin := rowM_in h.m hl hk
  have gs := grown_set W g (k * 3 + 2) (.slice ao x.md.next.length cp)
  have bb : Below (w.heap.size + 2) W (W.setCell ⟨g, k * 3 + 2, none⟩ (.slice ao x.md.next.length cp)) := (Below.refl _ _).setCell (by exact hg) _
  have hset : (ds ++ v.cs.drop k).set k ⟨x.md, ao, cp⟩ = (ds ++ [⟨x.md, ao, cp⟩]) ++ v.cs.drop (k + 1) := by
    rw [List.set_append_right _ _ (by rw [h.dl]; exact Nat.le_refl _), h.dl, Nat.sub_self, List.drop_eq_getElem_cons hk, List.set_cons_zero, List.append_assoc]
    rfl
  rw [hset] at hrow
  have hneJ : some J ≠ some g := ownsRow_ne h.m h.var (by decide)
  have hneN : (Value.slice a1 v.n.length c1).ownBlock = none ∨ (Value.slice a1 v.n.length c1).ownBlock ≠ some g := by
    rcases hq : (Value.slice a1 v.n.length c1).ownBlock with _ | q
    · exact .inl rfl
    · exact .inr (fun e => rows_ne (show W.ownsRow (w.heap.size + 2) EN 4 _ _ _ from h.n) h.m (by decide) q hq (by rw [e]; rfl))
  have hneE : (Value.slice a3 v.e.length c3).ownBlock = none ∨ (Value.slice a3 v.e.length c3).ownBlock ≠ some g := by
    rcases hq : (Value.slice a3 v.e.length c3).ownBlock with _ | q
    · exact .inl rfl
    · exact .inr (fun e => rows_ne (show W.ownsRow (w.heap.size + 2) ES 8 _ _ _ from h.e) h.m (by decide) q hq (by rw [e]; rfl))
  have hneI : ∀ {u : Value} {xs : List Int}, Own EI W (w.heap.size + 2) u xs → u.ownBlock = none ∨ u.ownBlock ≠ some g := fun {u xs} hu => by
    rcases hq : u.ownBlock with _ | q
    · exact .inl rfl
    · exact .inr (fun e => rows_ne (show W.ownsRow (w.heap.size + 2) EI 1 _ _ _ from hu) h.m (by decide) q hq (by rw [e]; rfl))
  refine ⟨g, rfl, hf, ⟨_, hin.c2⟩, ⟨h.st.high hr bb, h.var.grown gs hneJ, h.lo, h.n.only gs hneN, hrow, h.e.only gs hneE, by rw [List.length_append, h.dl]; rfl, ?_, fun d hd => ?_, ?_⟩⟩
  · have e2 : v.cs.take (k + 1) = v.cs.take k ++ [mcOf v.cs k] := by rw [List.take_succ_eq_append_getElem hk, mcOf_get hk]
    rw [e2]
    have h5 : List.map Mc.md ds = List.map Mc.md (v.cs.take k) := h.md
    unfold mds
    rw [List.map_append, List.map_append, h5, hx]
    rfl
  · rcases List.mem_append.1 hd with hd | hd
    · exact (h.nx d hd).only gs (hneI (h.nx d hd))
    · rw [List.mem_singleton] at hd; subst hd
      exact o.only gs (hneI o)
  · rw [List.pairwise_append]
    exact ⟨h.apart, List.pairwise_singleton _ _, fun p hp q hq b e => by rw [List.mem_singleton] at hq; subst hq; exact ha p hp b e⟩
end
theorem row_form {w : World} {base E s n : Nat} {v : Value} {cs : List Value} (h : w.ownsRow base E s v n cs) : ∃ ao cap, v = .slice ao n cap := by
  rcases h.2 with ⟨rfl, h2⟩ | ⟨g, cap, cur, rfl, -⟩
  · exact ⟨none, 0, by rw [h2]⟩
  · exact ⟨_, _, rfl⟩
theorem or_ne {o : Option Nat} {J : Nat} (h : some J = o → False) : o = none ∨ o ≠ some J := .inr (fun e => h e.symm)
set_option maxRecDepth 100000 in
set_option maxHeartbeats 4000000 in
set_option linter.unusedSimpArgs false in
theorem copyMe_any (v : Mv) (w : World) (hr : RdMe w v) : Calls Tryz.prog 62 #[mvVal v] w (GivesMe w v.me) := by
  have HX0 := Lib.hid (CpSt.start hr)
  have HRD := Lib.hid hr
  clear hr
  unfold mvVal
  go_enter Tryz.func62, Tryz.ntmps62
  go_upto_region 1 with fail
  generalize (w.alloc (.cells #[.int .i64 v.id, .slice v.no v.n.length v.nc, .slice v.mo v.cs.length v.mc, .slice v.eo v.e.length v.ec] 28)).alloc (.cells #[.int .i64 0, .slice none 0 0, .slice none 0 0, .slice none 0 0] 28) = w0 at HX0 ⊢
  go_cut [3] (fun s3 wx => ∃ wy, wy = wx ∧ ∃ J a1 c1 a2 c2 a3 c3, s3 = .pointer (some ⟨J, 0, none⟩) ∧ Hid (CpMid w wy v J a1 c1 a2 c2 a3 c3 [] 0))
  case first =>
    have HX1 := Lib.hid (HX0.out.call (Below.drew (Below.refl _ _)))
    refine wp_region_held_drew (S := fun w' => w'.cell? ⟨w.heap.size, 0, none⟩ = some (.int .i64 v.id) ∧ w'.cell? ⟨w.heap.size, 1, none⟩ = some (.slice v.no v.n.length v.nc) ∧ w'.cell? ⟨w.heap.size, 2, none⟩ = some (.slice v.mo v.cs.length v.mc) ∧ w'.cell? ⟨w.heap.size, 3, none⟩ = some (.slice v.eo v.e.length v.ec)) (by kernel_rfl) (HX1.out.box.all) (fun hHeld => ?_)
    generalize w0.drew = w1 at HX1 hHeld ⊢
    clear HX0
    refine wpAnyH_take (i := 0) (v := ?_) rfl (by kernel_rfl) (by kernel_rfl) (by kernel_rfl) (fun _ _ _ h => h) (Or.inl ⟨by rfl, ?_⟩) (by assumption) ?_
    rotate_left
    · (intro w hSw; (try dsimp only at hSw); go_simp; (try with_reducible rfl))
    try simp only [List.getElem_toArray, List.getElem_cons_succ, List.getElem_cons_zero, Act.put, List.setIfInBounds_toArray, List.set_cons_zero, List.set_cons_succ]
    refine wpAnyH_take (i := 1) (v := ?_) rfl (by kernel_rfl) (by kernel_rfl) (by kernel_rfl) (fun _ _ _ h => h) (Or.inl ⟨by rfl, ?_⟩) (by assumption) ?_
    rotate_left
    · (intro w hSw; (try dsimp only at hSw); go_simp; (try with_reducible rfl))
    try simp only [List.getElem_toArray, List.getElem_cons_succ, List.getElem_cons_zero, Act.put, List.setIfInBounds_toArray, List.set_cons_zero, List.set_cons_succ]
    refine wpAnyH_take (i := 2) (v := ?_) rfl (by kernel_rfl) (by kernel_rfl) (by kernel_rfl) (fun _ _ _ h => h) (Or.inl ⟨by rfl, ?_⟩) (by assumption) ?_
    rotate_left
    · (intro w hSw; (try dsimp only at hSw); go_simp; (try with_reducible rfl))
    try simp only [List.getElem_toArray, List.getElem_cons_succ, List.getElem_cons_zero, Act.put, List.setIfInBounds_toArray, List.set_cons_zero, List.set_cons_succ]
    refine wpAnyH_take (i := 3) (v := ?_) rfl (by kernel_rfl) (by kernel_rfl) (by kernel_rfl) (fun _ _ _ h => h) (Or.inl ⟨by rfl, ?_⟩) (by assumption) ?_
    rotate_left
    · (intro w hSw; (try dsimp only at hSw); go_simp; (try with_reducible rfl))
    try simp only [List.getElem_toArray, List.getElem_cons_succ, List.getElem_cons_zero, Act.put, List.setIfInBounds_toArray, List.set_cons_zero, List.set_cons_succ]
    refine wpAnyH_take (i := 5) (v := ?_) rfl (by kernel_rfl) (by kernel_rfl) (by kernel_rfl) (fun _ _ _ h => h) (Or.inl ⟨by rfl, ?_⟩) (by assumption) ?_
    rotate_left
    · (intro w hSw; (try dsimp only at hSw); go_simp; (try with_reducible rfl))
    try simp only [List.getElem_toArray, List.getElem_cons_succ, List.getElem_cons_zero, Act.put, List.setIfInBounds_toArray, List.set_cons_zero, List.set_cons_succ]
    refine wpAnyH_take (i := 6) (v := ?_) rfl (by kernel_rfl) (by kernel_rfl) (by kernel_rfl) (fun _ _ _ h => h) (Or.inl ⟨by rfl, ?_⟩) (by assumption) ?_
    rotate_left
    · (intro w hSw; (try dsimp only at hSw); go_simp; (try with_reducible rfl))
    try simp only [List.getElem_toArray, List.getElem_cons_succ, List.getElem_cons_zero, Act.put, List.setIfInBounds_toArray, List.set_cons_zero, List.set_cons_succ]
    refine wpAnyH_take (i := 8) (v := ?_) rfl (by kernel_rfl) (by kernel_rfl) (by kernel_rfl) (fun _ _ _ h => h) (Or.inl ⟨by rfl, ?_⟩) (by assumption) ?_
    rotate_left
    · (intro w hSw; (try dsimp only at hSw); go_simp; (try with_reducible rfl))
    try simp only [List.getElem_toArray, List.getElem_cons_succ, List.getElem_cons_zero, Act.put, List.setIfInBounds_toArray, List.set_cons_zero, List.set_cons_succ]
    refine wpAnyH_take (i := 9) (v := ?_) rfl (by kernel_rfl) (by kernel_rfl) (by kernel_rfl) (fun _ _ _ h => h) (Or.inl ⟨by rfl, ?_⟩) (by assumption) ?_
    rotate_left
    · (intro w hSw; (try dsimp only at hSw); go_simp; (try with_reducible rfl))
    try simp only [List.getElem_toArray, List.getElem_cons_succ, List.getElem_cons_zero, Act.put, List.setIfInBounds_toArray, List.set_cons_zero, List.set_cons_succ]
    refine wpAnyH_ready (rs := [4, 12]) (by kernel_rfl) (by simp) (AllReadyH.cons rfl (fun K hK => ?_) (AllReadyH.cons rfl (fun K hK => ?_) AllReadyH.nil))
    · go_simp
      refine (cloneN13_any _ _ _ _ _ HX1.out.rd.rn HX1.out.rd.nl).mono ?_
      rintro q w2 mk
      obtain ⟨a1, c1, rfl, on, -, bk⟩ := mk.get
      replace on := on.more (base' := w.heap.size + 2) HX1.out.lt2
      have HX2 := Lib.hid (HX1.out.call bk)
      go_wp2_with fail
      refine hK.out _ _ ?_ (fun hHeld => ?_)
      · exact HX2.out.box.all
      clear hK K bk mk
      try simp only [List.getElem_toArray, List.getElem_cons_succ, List.getElem_cons_zero, Act.put, List.setIfInBounds_toArray, List.set_cons_zero, List.set_cons_succ]
      refine wpAnyH_ready (rs := [7, 12]) (by kernel_rfl) (by simp) (AllReadyH.cons rfl (fun K hK => ?_) (AllReadyH.cons rfl (fun K hK => ?_) AllReadyH.nil))
      · go_simp
        refine (cloneM13_any _ _ _ _ _ HX2.out.rd.rm HX2.out.rd.ml).mono ?_
        rintro q w3 ⟨vk, rfl, om, bk⟩
        obtain ⟨a2, c2, rfl⟩ := row_form om
        replace om := ownsRow_more om (base' := w.heap.size + 2) HX2.out.lt2
        replace on := on.below bk
        have HX3 := Lib.hid (HX2.out.call bk)
        go_wp2_with fail
        refine hK.out _ _ ?_ (fun hHeld => ?_)
        · exact HX3.out.box.all
        clear hK K bk
        try simp only [List.getElem_toArray, List.getElem_cons_succ, List.getElem_cons_zero, Act.put, List.setIfInBounds_toArray, List.set_cons_zero, List.set_cons_succ]
        refine wpAnyH_ready (rs := [10, 12]) (by kernel_rfl) (by simp) (AllReadyH.cons rfl (fun K hK => ?_) (AllReadyH.cons rfl (fun K hK => ?_) AllReadyH.nil))
        · go_simp
          refine (cloneE13_any _ _ _ _ _ HX3.out.rd.re HX3.out.rd.el).mono ?_
          rintro q w4 mk
          obtain ⟨a3, c3, rfl, oe, -, bk⟩ := mk.get
          replace oe := oe.more (base' := w.heap.size + 2) HX3.out.lt2
          replace on := on.below bk
          replace om := ownsRow_below om bk
          have HX4 := Lib.hid (HX3.out.call bk)
          go_wp2_with fail
          refine hK.out _ _ ?_ (fun hHeld => ?_)
          · exact HX4.out.box.all
          clear hK K bk mk
          try simp only [List.getElem_toArray, List.getElem_cons_succ, List.getElem_cons_zero, Act.put, List.setIfInBounds_toArray, List.set_cons_zero, List.set_cons_succ]
          refine wpAnyH_take (i := 11) (v := ?_) rfl (by kernel_rfl) (by kernel_rfl) (by kernel_rfl) (fun _ _ _ h => h) (Or.inl ⟨by rfl, ?_⟩) (by assumption) ?_
          rotate_left
          · (intro w hSw; (try dsimp only at hSw); go_simp; (try with_reducible rfl))
          try simp only [List.getElem_toArray, List.getElem_cons_succ, List.getElem_cons_zero, Act.put, List.setIfInBounds_toArray, List.set_cons_zero, List.set_cons_succ]
          refine wpAnyH_ready (rs := [12]) (by kernel_rfl) (by simp) (AllReadyH.cons rfl (fun K hK => ?_) AllReadyH.nil)
          go_simp
          have ZJ : MvAt 28 (w4.alloc (.cells #[.int .i64 0, .slice none 0 0, .slice none 0 0, .slice none 0 0] 28)) w4.heap.size Mv.zero := MvAt.new (v := Mv.zero) w4
          have bal := Below.alloc (Below.refl w4.heap.size w4) (Nat.le_refl _) (.cells #[.int .i64 0, .slice none 0 0, .slice none 0 0, .slice none 0 0] 28)
          replace on := on.below bal
          replace om := ownsRow_below om bal
          replace oe := oe.below bal
          have HX5 := Lib.hid (HX4.out.call bal)
          have lo : w.heap.size + 2 ≤ w4.heap.size := HX4.out.lt2
          obtain ⟨J, hJ⟩ : ∃ J, J = w4.heap.size := ⟨_, rfl⟩
          rw [← hJ] at ZJ lo ⊢
          clear hJ bal
          generalize w4.alloc (.cells #[.int .i64 0, .slice none 0 0, .slice none 0 0, .slice none 0 0] 28) = w5 at HX5 ZJ on om oe ⊢
          refine hK.out _ _ ?_ (fun hHeld => ?_)
          · exact HX5.out.box.all
          clear hK K
          try simp only [List.getElem_toArray, List.getElem_cons_succ, List.getElem_cons_zero, Act.put, List.setIfInBounds_toArray, List.set_cons_zero, List.set_cons_succ]
          have rc := ZJ.all
          dsimp only [Mv.zero, List.length_nil] at rc
          obtain ⟨r0, r1, r2, r3⟩ := rc
          have f0 := ZJ.f 0
          have f1 := ZJ.f 1
          have f2 := ZJ.f 2
          have f3 := ZJ.f 3
          refine wpAnyH_ready (rs := [13]) (by kernel_rfl) (by simp) (AllReadyH.cons rfl (fun K hK => ?_) AllReadyH.nil)
          go_simp
          clear r0 r1 r2 r3 f0 f1 f2 f3
          change K _ (setMv w5 J ⟨v.id, v.n, a1, c1, v.cs, a2, c2, v.e, a3, c3⟩)
          have ZF := ZJ.put ⟨v.id, v.n, a1, c1, v.cs, a2, c2, v.e, a3, c3⟩
          have bs : Below (w.heap.size + 2) w5 (setMv w5 J ⟨v.id, v.n, a1, c1, v.cs, a2, c2, v.e, a3, c3⟩) := below_setMv lo ⟨v.id, v.n, a1, c1, v.cs, a2, c2, v.e, a3, c3⟩
          have gs := grown_setMv w5 J ⟨v.id, v.n, a1, c1, v.cs, a2, c2, v.e, a3, c3⟩
          have qn := on.only gs (or_ne (fun e => ownsRow_ne on ZJ (by decide) e))
          have qm := World.ownsRow.kept om gs (or_ne (fun e => ownsRow_ne om ZJ (by decide) e))
          have qe := oe.only gs (or_ne (fun e => ownsRow_ne oe ZJ (by decide) e))
          have HM := Lib.hid (CpMid.mk (HX5.out.high HRD.out bs) ZF lo qn (by rw [List.drop_zero, List.nil_append]; exact qm) qe rfl rfl (fun d hd => by cases hd) List.Pairwise.nil : CpMid w _ v J a1 c1 a2 c2 a3 c3 [] 0)
          generalize setMv w5 J ⟨v.id, v.n, a1, c1, v.cs, a2, c2, v.e, a3, c3⟩ = wz at HM ⊢
          refine hK.out _ _ ?_ (fun hHeld => ?_)
          · exact HM.out.st.box.all
          clear hK K
          try simp only [List.getElem_toArray, List.getElem_cons_succ, List.getElem_cons_zero, Act.put, List.setIfInBounds_toArray, List.set_cons_zero, List.set_cons_succ]
          refine wpAnyH_done (by kernel_rfl) ?_ _
          go_wp2_with fail
          go_meet
          exact ⟨_, rfl, J, a1, c1, a2, c2, a3, c3, rfl, HM⟩
        · go_simp
          have ZJ : MvAt 28 (w3.alloc (.cells #[.int .i64 0, .slice none 0 0, .slice none 0 0, .slice none 0 0] 28)) w3.heap.size Mv.zero := MvAt.new (v := Mv.zero) w3
          have bal := Below.alloc (Below.refl w3.heap.size w3) (Nat.le_refl _) (.cells #[.int .i64 0, .slice none 0 0, .slice none 0 0, .slice none 0 0] 28)
          replace on := on.below bal
          replace om := ownsRow_below om bal
          have HX4 := Lib.hid (HX3.out.call bal)
          have lo : w.heap.size + 2 ≤ w3.heap.size := HX3.out.lt2
          obtain ⟨J, hJ⟩ : ∃ J, J = w3.heap.size := ⟨_, rfl⟩
          rw [← hJ] at ZJ lo ⊢
          clear hJ bal
          generalize w3.alloc (.cells #[.int .i64 0, .slice none 0 0, .slice none 0 0, .slice none 0 0] 28) = w4 at HX4 ZJ on om ⊢
          refine hK.out _ _ ?_ (fun hHeld => ?_)
          · exact HX4.out.box.all
          clear hK K
          try simp only [List.getElem_toArray, List.getElem_cons_succ, List.getElem_cons_zero, Act.put, List.setIfInBounds_toArray, List.set_cons_zero, List.set_cons_succ]
          refine wpAnyH_ready (rs := [10]) (by kernel_rfl) (by simp) (AllReadyH.cons rfl (fun K hK => ?_) AllReadyH.nil)
          go_simp
          refine (cloneE13_any _ _ _ _ _ HX4.out.rd.re HX4.out.rd.el).mono ?_
          rintro q w5 mk
          obtain ⟨a3, c3, rfl, oe, -, bk⟩ := mk.get
          replace oe := oe.more (base' := w.heap.size + 2) HX4.out.lt2
          replace on := on.below bk
          replace om := ownsRow_below om bk
          replace ZJ := ZJ.below bk ZJ.lt
          have HX5 := Lib.hid (HX4.out.call bk)
          go_wp2_with fail
          refine hK.out _ _ ?_ (fun hHeld => ?_)
          · exact HX5.out.box.all
          clear hK K bk mk
          try simp only [List.getElem_toArray, List.getElem_cons_succ, List.getElem_cons_zero, Act.put, List.setIfInBounds_toArray, List.set_cons_zero, List.set_cons_succ]
          refine wpAnyH_take (i := 11) (v := ?_) rfl (by kernel_rfl) (by kernel_rfl) (by kernel_rfl) (fun _ _ _ h => h) (Or.inl ⟨by rfl, ?_⟩) (by assumption) ?_
          rotate_left
          · (intro w hSw; (try dsimp only at hSw); go_simp; (try with_reducible rfl))
          try simp only [List.getElem_toArray, List.getElem_cons_succ, List.getElem_cons_zero, Act.put, List.setIfInBounds_toArray, List.set_cons_zero, List.set_cons_succ]
          have rc := ZJ.all
          dsimp only [Mv.zero, List.length_nil] at rc
          obtain ⟨r0, r1, r2, r3⟩ := rc
          have f0 := ZJ.f 0
          have f1 := ZJ.f 1
          have f2 := ZJ.f 2
          have f3 := ZJ.f 3
          refine wpAnyH_ready (rs := [13]) (by kernel_rfl) (by simp) (AllReadyH.cons rfl (fun K hK => ?_) AllReadyH.nil)
          go_simp
          clear r0 r1 r2 r3 f0 f1 f2 f3
          change K _ (setMv w5 J ⟨v.id, v.n, a1, c1, v.cs, a2, c2, v.e, a3, c3⟩)
          have ZF := ZJ.put ⟨v.id, v.n, a1, c1, v.cs, a2, c2, v.e, a3, c3⟩
          have bs : Below (w.heap.size + 2) w5 (setMv w5 J ⟨v.id, v.n, a1, c1, v.cs, a2, c2, v.e, a3, c3⟩) := below_setMv lo ⟨v.id, v.n, a1, c1, v.cs, a2, c2, v.e, a3, c3⟩
          have gs := grown_setMv w5 J ⟨v.id, v.n, a1, c1, v.cs, a2, c2, v.e, a3, c3⟩
          have qn := on.only gs (or_ne (fun e => ownsRow_ne on ZJ (by decide) e))
          have qm := World.ownsRow.kept om gs (or_ne (fun e => ownsRow_ne om ZJ (by decide) e))
          have qe := oe.only gs (or_ne (fun e => ownsRow_ne oe ZJ (by decide) e))
          have HM := Lib.hid (CpMid.mk (HX5.out.high HRD.out bs) ZF lo qn (by rw [List.drop_zero, List.nil_append]; exact qm) qe rfl rfl (fun d hd => by cases hd) List.Pairwise.nil : CpMid w _ v J a1 c1 a2 c2 a3 c3 [] 0)
          generalize setMv w5 J ⟨v.id, v.n, a1, c1, v.cs, a2, c2, v.e, a3, c3⟩ = wz at HM ⊢
          refine hK.out _ _ ?_ (fun hHeld => ?_)
          · exact HM.out.st.box.all
          clear hK K
          try simp only [List.getElem_toArray, List.getElem_cons_succ, List.getElem_cons_zero, Act.put, List.setIfInBounds_toArray, List.set_cons_zero, List.set_cons_succ]
          refine wpAnyH_done (by kernel_rfl) ?_ _
          go_wp2_with fail
          go_meet
          exact ⟨_, rfl, J, a1, c1, a2, c2, a3, c3, rfl, HM⟩
      · go_simp
        have ZJ : MvAt 28 (w2.alloc (.cells #[.int .i64 0, .slice none 0 0, .slice none 0 0, .slice none 0 0] 28)) w2.heap.size Mv.zero := MvAt.new (v := Mv.zero) w2
        have bal := Below.alloc (Below.refl w2.heap.size w2) (Nat.le_refl _) (.cells #[.int .i64 0, .slice none 0 0, .slice none 0 0, .slice none 0 0] 28)
        replace on := on.below bal
        have HX3 := Lib.hid (HX2.out.call bal)
        have lo : w.heap.size + 2 ≤ w2.heap.size := HX2.out.lt2
        obtain ⟨J, hJ⟩ : ∃ J, J = w2.heap.size := ⟨_, rfl⟩
        rw [← hJ] at ZJ lo ⊢
        clear hJ bal
        generalize w2.alloc (.cells #[.int .i64 0, .slice none 0 0, .slice none 0 0, .slice none 0 0] 28) = w3 at HX3 ZJ on ⊢
        refine hK.out _ _ ?_ (fun hHeld => ?_)
        · exact HX3.out.box.all
        clear hK K
        try simp only [List.getElem_toArray, List.getElem_cons_succ, List.getElem_cons_zero, Act.put, List.setIfInBounds_toArray, List.set_cons_zero, List.set_cons_succ]
        refine wpAnyH_ready (rs := [7]) (by kernel_rfl) (by simp) (AllReadyH.cons rfl (fun K hK => ?_) AllReadyH.nil)
        go_simp
        refine (cloneM13_any _ _ _ _ _ HX3.out.rd.rm HX3.out.rd.ml).mono ?_
        rintro q w4 ⟨vk, rfl, om, bk⟩
        obtain ⟨a2, c2, rfl⟩ := row_form om
        replace om := ownsRow_more om (base' := w.heap.size + 2) HX3.out.lt2
        replace on := on.below bk
        replace ZJ := ZJ.below bk ZJ.lt
        have HX4 := Lib.hid (HX3.out.call bk)
        go_wp2_with fail
        refine hK.out _ _ ?_ (fun hHeld => ?_)
        · exact HX4.out.box.all
        clear hK K bk
        try simp only [List.getElem_toArray, List.getElem_cons_succ, List.getElem_cons_zero, Act.put, List.setIfInBounds_toArray, List.set_cons_zero, List.set_cons_succ]
        refine wpAnyH_ready (rs := [10]) (by kernel_rfl) (by simp) (AllReadyH.cons rfl (fun K hK => ?_) AllReadyH.nil)
        go_simp
        refine (cloneE13_any _ _ _ _ _ HX4.out.rd.re HX4.out.rd.el).mono ?_
        rintro q w5 mk
        obtain ⟨a3, c3, rfl, oe, -, bk⟩ := mk.get
        replace oe := oe.more (base' := w.heap.size + 2) HX4.out.lt2
        replace on := on.below bk
        replace om := ownsRow_below om bk
        replace ZJ := ZJ.below bk ZJ.lt
        have HX5 := Lib.hid (HX4.out.call bk)
        go_wp2_with fail
        refine hK.out _ _ ?_ (fun hHeld => ?_)
        · exact HX5.out.box.all
        clear hK K bk mk
        try simp only [List.getElem_toArray, List.getElem_cons_succ, List.getElem_cons_zero, Act.put, List.setIfInBounds_toArray, List.set_cons_zero, List.set_cons_succ]
        refine wpAnyH_take (i := 11) (v := ?_) rfl (by kernel_rfl) (by kernel_rfl) (by kernel_rfl) (fun _ _ _ h => h) (Or.inl ⟨by rfl, ?_⟩) (by assumption) ?_
        rotate_left
        · (intro w hSw; (try dsimp only at hSw); go_simp; (try with_reducible rfl))
        try simp only [List.getElem_toArray, List.getElem_cons_succ, List.getElem_cons_zero, Act.put, List.setIfInBounds_toArray, List.set_cons_zero, List.set_cons_succ]
        have rc := ZJ.all
        dsimp only [Mv.zero, List.length_nil] at rc
        obtain ⟨r0, r1, r2, r3⟩ := rc
        have f0 := ZJ.f 0
        have f1 := ZJ.f 1
        have f2 := ZJ.f 2
        have f3 := ZJ.f 3
        refine wpAnyH_ready (rs := [13]) (by kernel_rfl) (by simp) (AllReadyH.cons rfl (fun K hK => ?_) AllReadyH.nil)
        go_simp
        clear r0 r1 r2 r3 f0 f1 f2 f3
        change K _ (setMv w5 J ⟨v.id, v.n, a1, c1, v.cs, a2, c2, v.e, a3, c3⟩)
        have ZF := ZJ.put ⟨v.id, v.n, a1, c1, v.cs, a2, c2, v.e, a3, c3⟩
        have bs : Below (w.heap.size + 2) w5 (setMv w5 J ⟨v.id, v.n, a1, c1, v.cs, a2, c2, v.e, a3, c3⟩) := below_setMv lo ⟨v.id, v.n, a1, c1, v.cs, a2, c2, v.e, a3, c3⟩
        have gs := grown_setMv w5 J ⟨v.id, v.n, a1, c1, v.cs, a2, c2, v.e, a3, c3⟩
        have qn := on.only gs (or_ne (fun e => ownsRow_ne on ZJ (by decide) e))
        have qm := World.ownsRow.kept om gs (or_ne (fun e => ownsRow_ne om ZJ (by decide) e))
        have qe := oe.only gs (or_ne (fun e => ownsRow_ne oe ZJ (by decide) e))
        have HM := Lib.hid (CpMid.mk (HX5.out.high HRD.out bs) ZF lo qn (by rw [List.drop_zero, List.nil_append]; exact qm) qe rfl rfl (fun d hd => by cases hd) List.Pairwise.nil : CpMid w _ v J a1 c1 a2 c2 a3 c3 [] 0)
        generalize setMv w5 J ⟨v.id, v.n, a1, c1, v.cs, a2, c2, v.e, a3, c3⟩ = wz at HM ⊢
        refine hK.out _ _ ?_ (fun hHeld => ?_)
        · exact HM.out.st.box.all
        clear hK K
        try simp only [List.getElem_toArray, List.getElem_cons_succ, List.getElem_cons_zero, Act.put, List.setIfInBounds_toArray, List.set_cons_zero, List.set_cons_succ]
        refine wpAnyH_done (by kernel_rfl) ?_ _
        go_wp2_with fail
        go_meet
        exact ⟨_, rfl, J, a1, c1, a2, c2, a3, c3, rfl, HM⟩
    · go_simp
      have ZJ : MvAt 28 (w1.alloc (.cells #[.int .i64 0, .slice none 0 0, .slice none 0 0, .slice none 0 0] 28)) w1.heap.size Mv.zero := MvAt.new (v := Mv.zero) w1
      have bal := Below.alloc (Below.refl w1.heap.size w1) (Nat.le_refl _) (.cells #[.int .i64 0, .slice none 0 0, .slice none 0 0, .slice none 0 0] 28)
      have HX2 := Lib.hid (HX1.out.call bal)
      have lo : w.heap.size + 2 ≤ w1.heap.size := HX1.out.lt2
      obtain ⟨J, hJ⟩ : ∃ J, J = w1.heap.size := ⟨_, rfl⟩
      rw [← hJ] at ZJ lo ⊢
      clear hJ bal
      generalize w1.alloc (.cells #[.int .i64 0, .slice none 0 0, .slice none 0 0, .slice none 0 0] 28) = w2 at HX2 ZJ ⊢
      refine hK.out _ _ ?_ (fun hHeld => ?_)
      · exact HX2.out.box.all
      clear hK K
      try simp only [List.getElem_toArray, List.getElem_cons_succ, List.getElem_cons_zero, Act.put, List.setIfInBounds_toArray, List.set_cons_zero, List.set_cons_succ]
      refine wpAnyH_ready (rs := [4]) (by kernel_rfl) (by simp) (AllReadyH.cons rfl (fun K hK => ?_) AllReadyH.nil)
      go_simp
      refine (cloneN13_any _ _ _ _ _ HX2.out.rd.rn HX2.out.rd.nl).mono ?_
      rintro q w3 mk
      obtain ⟨a1, c1, rfl, on, -, bk⟩ := mk.get
      replace on := on.more (base' := w.heap.size + 2) HX2.out.lt2
      replace ZJ := ZJ.below bk ZJ.lt
      have HX3 := Lib.hid (HX2.out.call bk)
      go_wp2_with fail
      refine hK.out _ _ ?_ (fun hHeld => ?_)
      · exact HX3.out.box.all
      clear hK K bk mk
      try simp only [List.getElem_toArray, List.getElem_cons_succ, List.getElem_cons_zero, Act.put, List.setIfInBounds_toArray, List.set_cons_zero, List.set_cons_succ]
      refine wpAnyH_ready (rs := [7]) (by kernel_rfl) (by simp) (AllReadyH.cons rfl (fun K hK => ?_) AllReadyH.nil)
      go_simp
      refine (cloneM13_any _ _ _ _ _ HX3.out.rd.rm HX3.out.rd.ml).mono ?_
      rintro q w4 ⟨vk, rfl, om, bk⟩
      obtain ⟨a2, c2, rfl⟩ := row_form om
      replace om := ownsRow_more om (base' := w.heap.size + 2) HX3.out.lt2
      replace on := on.below bk
      replace ZJ := ZJ.below bk ZJ.lt
      have HX4 := Lib.hid (HX3.out.call bk)
      go_wp2_with fail
      refine hK.out _ _ ?_ (fun hHeld => ?_)
      · exact HX4.out.box.all
      clear hK K bk
      try simp only [List.getElem_toArray, List.getElem_cons_succ, List.getElem_cons_zero, Act.put, List.setIfInBounds_toArray, List.set_cons_zero, List.set_cons_succ]
      refine wpAnyH_ready (rs := [10]) (by kernel_rfl) (by simp) (AllReadyH.cons rfl (fun K hK => ?_) AllReadyH.nil)
      go_simp
      refine (cloneE13_any _ _ _ _ _ HX4.out.rd.re HX4.out.rd.el).mono ?_
      rintro q w5 mk
      obtain ⟨a3, c3, rfl, oe, -, bk⟩ := mk.get
      replace oe := oe.more (base' := w.heap.size + 2) HX4.out.lt2
      replace on := on.below bk
      replace om := ownsRow_below om bk
      replace ZJ := ZJ.below bk ZJ.lt
      have HX5 := Lib.hid (HX4.out.call bk)
      go_wp2_with fail
      refine hK.out _ _ ?_ (fun hHeld => ?_)
      · exact HX5.out.box.all
      clear hK K bk mk
      try simp only [List.getElem_toArray, List.getElem_cons_succ, List.getElem_cons_zero, Act.put, List.setIfInBounds_toArray, List.set_cons_zero, List.set_cons_succ]
      refine wpAnyH_take (i := 11) (v := ?_) rfl (by kernel_rfl) (by kernel_rfl) (by kernel_rfl) (fun _ _ _ h => h) (Or.inl ⟨by rfl, ?_⟩) (by assumption) ?_
      rotate_left
      · (intro w hSw; (try dsimp only at hSw); go_simp; (try with_reducible rfl))
      try simp only [List.getElem_toArray, List.getElem_cons_succ, List.getElem_cons_zero, Act.put, List.setIfInBounds_toArray, List.set_cons_zero, List.set_cons_succ]
      have rc := ZJ.all
      dsimp only [Mv.zero, List.length_nil] at rc
      obtain ⟨r0, r1, r2, r3⟩ := rc
      have f0 := ZJ.f 0
      have f1 := ZJ.f 1
      have f2 := ZJ.f 2
      have f3 := ZJ.f 3
      refine wpAnyH_ready (rs := [13]) (by kernel_rfl) (by simp) (AllReadyH.cons rfl (fun K hK => ?_) AllReadyH.nil)
      go_simp
      clear r0 r1 r2 r3 f0 f1 f2 f3
      change K _ (setMv w5 J ⟨v.id, v.n, a1, c1, v.cs, a2, c2, v.e, a3, c3⟩)
      have ZF := ZJ.put ⟨v.id, v.n, a1, c1, v.cs, a2, c2, v.e, a3, c3⟩
      have bs : Below (w.heap.size + 2) w5 (setMv w5 J ⟨v.id, v.n, a1, c1, v.cs, a2, c2, v.e, a3, c3⟩) := below_setMv lo ⟨v.id, v.n, a1, c1, v.cs, a2, c2, v.e, a3, c3⟩
      have gs := grown_setMv w5 J ⟨v.id, v.n, a1, c1, v.cs, a2, c2, v.e, a3, c3⟩
      have qn := on.only gs (or_ne (fun e => ownsRow_ne on ZJ (by decide) e))
      have qm := World.ownsRow.kept om gs (or_ne (fun e => ownsRow_ne om ZJ (by decide) e))
      have qe := oe.only gs (or_ne (fun e => ownsRow_ne oe ZJ (by decide) e))
      have HM := Lib.hid (CpMid.mk (HX5.out.high HRD.out bs) ZF lo qn (by rw [List.drop_zero, List.nil_append]; exact qm) qe rfl rfl (fun d hd => by cases hd) List.Pairwise.nil : CpMid w _ v J a1 c1 a2 c2 a3 c3 [] 0)
      generalize setMv w5 J ⟨v.id, v.n, a1, c1, v.cs, a2, c2, v.e, a3, c3⟩ = wz at HM ⊢
      refine hK.out _ _ ?_ (fun hHeld => ?_)
      · exact HM.out.st.box.all
      clear hK K
      try simp only [List.getElem_toArray, List.getElem_cons_succ, List.getElem_cons_zero, Act.put, List.setIfInBounds_toArray, List.set_cons_zero, List.set_cons_succ]
      refine wpAnyH_done (by kernel_rfl) ?_ _
      go_wp2_with fail
      go_meet
      exact ⟨_, rfl, J, a1, c1, a2, c2, a3, c3, rfl, HM⟩
  case rest =>
    obtain ⟨w2, rfl, J, a1, c1, a2, c2, a3, c3, rfl, HM⟩ := hcut
    clear HX0
    obtain ⟨q0, q1, q2, q3⟩ := HM.out.st.box.all
    have HL := Lib.hid HRD.out.ml
    go_wp2_with fail
    clear q0 q1 q2 q3
    go_loopw [21] (fun i wr => ∃ (k : Nat) (ds : List Mc), k ≤ v.cs.length ∧ i = .int .i64 k ∧ Hid (CpMid w wr v J a1 c1 a2 c2 a3 c3 ds k)) (fun i _ => v.cs.length - (intOf i).toNat)
    case atStart => exact ⟨0, [], Nat.zero_le _, rfl, HM⟩
    case round =>
      clear HM
      obtain ⟨k, ds, hk, rfl, HM⟩ := hrel
      by_cases hlt : k < v.cs.length
      · obtain ⟨b, off, e0, hg, hx, hxr⟩ := HM.out.st.rd.rm.at hlt
        have hk20 : k ≤ 1048576 := by have := HL.out; omega
        have hnl := HRD.out.ms _ (mcOf_mem hlt)
        have HST := Lib.hid (fun W (hM : CpMid w W v J a1 c1 a2 c2 a3 c3 ds k) ao cp o ha => hM.store HRD.out hlt (x := mcOf v.cs k) rfl (ao := ao) (cp := cp) o ha)
        generalize mcOf v.cs k = x at hx hxr hnl HST
        obtain ⟨q0, q1, q2⟩ := hx
        have bal := (Below.refl wr.heap.size wr).alloc (Nat.le_refl _) (.cells #[.int .i64 x.md.rounds, .int .i64 x.md.slots, .slice x.ao x.md.next.length x.cap] 37)
        have HXB := Lib.hid (McAt.new (T := 37) (c := x) wr)
        have HM2 := Lib.hid (HM.out.call bal)
        have HRX := Lib.hid (hxr.rd.below bal)
        have HNL := Lib.hid hnl
        obtain ⟨K5, hK5⟩ : ∃ K, K = wr.heap.size := ⟨_, rfl⟩
        rw [← hK5] at HXB
        have HM2g := Lib.hid HM.out.m
        have HKG := Lib.hid (show wr.heap.size ≤ K5 from by omega)
        rw [e0]
        clear HM bal hxr hnl hg
        go_upto_region 5 with fail
        rw [← hK5]
        clear q0 q1 q2 hK5
        generalize wr.alloc (.cells #[.int .i64 x.md.rounds, .int .i64 x.md.slots, .slice x.ao x.md.next.length x.cap] 37) = w3 at HXB HM2 HRX ⊢
        have gk : (k : Int) < (v.cs.length : Int) := by omega
        have S5 := Lib.hid (⟨HM2.out.var.in_.c2, HXB.out.in_.c2⟩ : w3.drew.cell? ⟨J, 2, none⟩ = some (.slice a2 v.cs.length c2) ∧ w3.drew.cell? ⟨K5, 2, none⟩ = some (.slice x.ao x.md.next.length x.cap))
        have HM3 := Lib.hid (HM2.out.call (Below.drew (Below.refl _ _)))
        have HRX3 := Lib.hid (HRX.out.below (Below.drew (Below.refl _ _)))
        have HXB3 := Lib.hid (HXB.out.below (Below.drew (Below.refl w3.heap.size w3)) HXB.out.lt)
        obtain ⟨g, hg2⟩ : ∃ g, a2 = some ⟨g, 0, none⟩ := by
          rcases HM2.out.m.2 with ⟨e0, h0⟩ | ⟨g, cap, cur, e0, -⟩
          · omega
          · exact ⟨g, by cases e0; rfl⟩
        have HG := Lib.hid hg2
        rw [hg2] at S5
        refine wp_region_held_drew (S := fun w' => w'.cell? ⟨J, 2, none⟩ = some (.slice (some ⟨g, 0, none⟩) v.cs.length c2) ∧ w'.cell? ⟨K5, 2, none⟩ = some (.slice x.ao x.md.next.length x.cap)) (by kernel_rfl) S5.out (fun hHeld => ?_)
        generalize w3.drew = w4 at HM3 HRX3 HXB3 hHeld ⊢
        have HGK := Lib.hid (show g < K5 from by have h1 := (World.ownsRow.lt HM2g.out g (by rw [hg2]; rfl)).2; have := HKG.out; omega)
        clear HM2 HRX HXB S5
        refine wpAnyH_take (i := 0) (v := ?_) rfl (by kernel_rfl) (by kernel_rfl) (by kernel_rfl) (fun _ _ _ h => h) (Or.inl ⟨by rfl, ?_⟩) (by assumption) ?_
        rotate_left
        · (intro w hSw; (try dsimp only at hSw); go_simp; (try with_reducible rfl))
        try simp only [List.getElem_toArray, List.getElem_cons_succ, List.getElem_cons_zero, Act.put, List.setIfInBounds_toArray, List.set_cons_zero, List.set_cons_succ]
        refine wpAnyH_take (i := 1) (v := ?_) rfl (by kernel_rfl) (by kernel_rfl) (by kernel_rfl) (fun _ _ _ h => h) (Or.inl ⟨by rfl, ?_⟩) (by assumption) ?_
        rotate_left
        · (intro w hSw; (try dsimp only at hSw); go_simp; (try with_reducible rfl))
        try simp only [List.getElem_toArray, List.getElem_cons_succ, List.getElem_cons_zero, Act.put, List.setIfInBounds_toArray, List.set_cons_zero, List.set_cons_succ]
        refine wpAnyH_take (i := 2) (v := ?_) rfl (by kernel_rfl) (by kernel_rfl) (by kernel_rfl) (fun _ _ _ h => h) (Or.inl ⟨by rfl, ?_⟩) (by assumption) ?_
        rotate_left
        · (intro w hSw; (try dsimp only at hSw); go_simp; (try with_reducible rfl))
        try simp only [List.getElem_toArray, List.getElem_cons_succ, List.getElem_cons_zero, Act.put, List.setIfInBounds_toArray, List.set_cons_zero, List.set_cons_succ]
        refine wpAnyH_take (i := 3) (v := ?_) rfl (by kernel_rfl) (by kernel_rfl) (by kernel_rfl) (fun _ _ _ h => h) (Or.inl ⟨by rfl, ?_⟩) (by assumption) ?_
        rotate_left
        · (intro w hSw; (try dsimp only at hSw); go_simp; (try with_reducible rfl))
        try simp only [List.getElem_toArray, List.getElem_cons_succ, List.getElem_cons_zero, Act.put, List.setIfInBounds_toArray, List.set_cons_zero, List.set_cons_succ]
        refine wpAnyH_take (i := 4) (v := ?_) rfl (by kernel_rfl) (by kernel_rfl) (by kernel_rfl) (fun _ _ _ h => h) (Or.inl ⟨by rfl, ?_⟩) (by assumption) ?_
        rotate_left
        · (intro w hSw; (try dsimp only at hSw); go_simp; (try with_reducible rfl))
        try simp only [List.getElem_toArray, List.getElem_cons_succ, List.getElem_cons_zero, Act.put, List.setIfInBounds_toArray, List.set_cons_zero, List.set_cons_succ]
        refine wpAnyH_ready (rs := [5]) (by kernel_rfl) (by simp) (AllReadyH.cons rfl (fun K hK => ?_) AllReadyH.nil)
        go_simp
        refine (cloneI13_any _ _ _ _ _ HRX3.out HNL.out).mono ?_
        rintro q w5 mk
        obtain ⟨ao, cp, rfl, oo, -, bk⟩ := mk.get
        have HA := Lib.hid (fun d (hd : d ∈ ds) b (e : d.v.ownBlock = some b) (e2 : (Value.slice ao x.md.next.length cp).ownBlock = some b) => (show False from by have h1 := (oo.block b e2).1; have h2 := ((HM3.out.nx d hd).block b e).2; omega))
        replace oo := oo.more (base' := w.heap.size + 2) (HM3.out.st.lt2)
        have HM4 := Lib.hid (HM3.out.call bk)
        have HXB4 := Lib.hid (HXB3.out.below bk HXB3.out.lt)
        go_wp2_with fail
        refine hK.out _ _ ?_ (fun hHeld => ?_)
        · exact ⟨by have := HM4.out.var.in_.c2; rw [HG.out] at this; exact this, HXB4.out.in_.c2⟩
        clear hK K bk mk HM3 HXB3
        try simp only [List.getElem_toArray, List.getElem_cons_succ, List.getElem_cons_zero, Act.put, List.setIfInBounds_toArray, List.set_cons_zero, List.set_cons_succ]
        refine wpAnyH_take (i := 6) (v := ?_) rfl (by kernel_rfl) (by kernel_rfl) (by kernel_rfl) (fun _ _ _ h => h) (Or.inl ⟨by rfl, ?_⟩) (by assumption) ?_
        rotate_left
        · (intro w hSw; (try dsimp only at hSw); go_simp; (try with_reducible rfl))
        try simp only [List.getElem_toArray, List.getElem_cons_succ, List.getElem_cons_zero, Act.put, List.setIfInBounds_toArray, List.set_cons_zero, List.set_cons_succ]
        refine wpAnyH_take (i := 7) (v := ?_) rfl (by kernel_rfl) (by kernel_rfl) (by kernel_rfl) (fun _ _ _ h => h) (Or.inl ⟨by rfl, ?_⟩) (by assumption) ?_
        rotate_left
        · (intro w hSw; (try dsimp only at hSw); go_simp; (try with_reducible rfl))
        try simp only [List.getElem_toArray, List.getElem_cons_succ, List.getElem_cons_zero, Act.put, List.setIfInBounds_toArray, List.set_cons_zero, List.set_cons_succ]
        obtain ⟨g', hg', hfz, ⟨u, hu⟩, hN⟩ := HST.out _ HM4.out ao cp oo HA.out
        have eg : g' = g := by rw [hg2] at hg'; cases hg'; rfl
        subst eg
        refine wpAnyH_ready (rs := [8]) (by kernel_rfl) (by simp) (AllReadyH.cons rfl (fun K hK => ?_) AllReadyH.nil)
        go_simp
        have HXB5 := Lib.hid (HXB4.out.grown (grown_set w5 g' (k * 3 + 2) (.slice ao x.md.next.length cp)) (fun e => by cases e; have := HGK.out; omega))
        have HN := Lib.hid hN
        clear hfz hu hN
        generalize w5.setCell ⟨g', k * 3 + 2, none⟩ (.slice ao x.md.next.length cp) = w6 at HN HXB5 ⊢
        refine hK.out _ _ ?_ (fun hHeld => ?_)
        · exact ⟨by have := HN.out.var.in_.c2; rw [HG.out] at this; exact this, HXB5.out.in_.c2⟩
        clear hK K
        try simp only [List.getElem_toArray, List.getElem_cons_succ, List.getElem_cons_zero, Act.put, List.setIfInBounds_toArray, List.set_cons_zero, List.set_cons_succ]
        refine wpAnyH_done (by kernel_rfl) ?_ _
        go_wp2_with fail
        go_roundw
        case rel => exact ⟨k + 1, ds ++ [⟨x.md, ao, cp⟩], by omega, by go_num, HN⟩
        case measure => simp [intOf]; omega
      · have hkn : k = v.cs.length := by omega
        subst hkn
        obtain ⟨d0, d1, d2, d3⟩ := HM.out.var.all
        have hr := HM.out.st.res.all
        dsimp only [Mv.zero, List.length_nil] at hr
        obtain ⟨q0, q1, q2, q3⟩ := hr
        have f0 := HM.out.st.res.f 0; have f1 := HM.out.st.res.f 1; have f2 := HM.out.st.res.f 2; have f3 := HM.out.st.res.f 3
        go_wp2_with fail
        clear d0 d1 d2 d3 q0 q1 q2 q3 f0 f1 f2 f3
        change bodyPost _ _ _ _ _ (setMv wr (w.heap.size + 1) ⟨v.id, v.n, a1, c1, v.cs, a2, c2, v.e, a3, c3⟩)
        have SF := HM.out.st.res.put ⟨v.id, v.n, a1, c1, v.cs, a2, c2, v.e, a3, c3⟩
        have BF := HM.out.st.below.trans (below_setMv (B := w.heap.size) (w := wr) (Nat.le_succ _) ⟨v.id, v.n, a1, c1, v.cs, a2, c2, v.e, a3, c3⟩)
        have gs := grown_setMv wr (w.heap.size + 1) ⟨v.id, v.n, a1, c1, v.cs, a2, c2, v.e, a3, c3⟩
        have o1 := HM.out.n.low gs (by omega)
        have o3 := HM.out.e.low gs (by omega)
        have hcl : ds.length = v.cs.length := HM.out.dl
        have hmd : mds ds = mds v.cs := by have := HM.out.md; rwa [List.take_length] at this
        have o2 : OwnM EM EI wr (w.heap.size + 2) (.slice a2 ds.length c2) ds := ⟨by rw [hcl]; have := HM.out.m; rwa [List.drop_length, List.append_nil] at this, HM.out.nx, HM.out.apart⟩
        replace o2 := o2.low gs (by omega)
        generalize setMv wr (w.heap.size + 1) ⟨v.id, v.n, a1, c1, v.cs, a2, c2, v.e, a3, c3⟩ = wz at SF BF o1 o2 o3 ⊢
        obtain ⟨e0, e1, e2, e3⟩ := SF.all
        dsimp only at e0 e1 e2 e3
        rw [← hcl] at e2
        exact bodyPost_ret (v := mvVal ⟨v.id, v.n, a1, c1, ds, a2, c2, v.e, a3, c3⟩) (by simp [mvVal, results, Tryz.results62, go_sem, e0, e1, e2, e3]) rfl ⟨_, by unfold Mv.me; rw [hmd], rfl, ⟨o1.more (by omega), o2.more (by omega), o3.more (by omega)⟩, BF⟩
end

section
open Go.RowKit
theorem OwnMe.other {W W' : World} {base K : Nat} {y v : Mv} (h : OwnMe W base v) (hK : MvAt 28 W K y) (g : W.grownBy W' (some K)) : OwnMe W' base v :=
  ⟨h.n.only g (or_ne (fun e => ownsRow_ne h.n hK (by decide) e)), ⟨World.ownsRow.kept h.m.row g (or_ne (fun e => ownsRow_ne h.m.row hK (by decide) e)), fun c hc => (h.m.nx c hc).only g (or_ne (fun e => ownsRow_ne (h.m.nx c hc) hK (by decide) e)), h.m.apart⟩, h.e.only g (or_ne (fun e => ownsRow_ne h.e hK (by decide) e))⟩
theorem OwnMe.zero {W : World} {base : Nat} : OwnMe W base Mv.zero := ⟨OwnN.nil_, OwnM.nil_, OwnE.nil_⟩
structure OwSt (w W : World) (v : Mv) (V : Value) (ds : List Mc) (k : Nat) : Prop where
  st : CpSt w W v
  m : OwnM EM EI W (w.heap.size + 2) V ds
  md : mds ds = mds (v.cs.take k)
theorem OwSt.call {w W W' : World} {v : Mv} {V : Value} {ds : List Mc} {k : Nat} (h : OwSt w W v V ds k) (b : Below W.heap.size W W') : OwSt w W' v V ds k := ⟨h.st.call b, h.m.below b, h.md⟩
theorem mds_snoc {cs ds : List Mc} {k : Nat} (hk : k < cs.length) (h : mds ds = mds (cs.take k)) {d : Mc} (hd : d.md = (mcOf cs k).md) : mds (ds ++ [d]) = mds (cs.take (k + 1)) := by
  have h5 : List.map Mc.md ds = List.map Mc.md (cs.take k) := h
  rw [List.take_succ_eq_append_getElem hk, ← mcOf_get hk]
  unfold mds
  rw [List.map_append, List.map_append, h5, List.map_singleton, List.map_singleton, hd]
theorem rows_or {w : World} {b1 b2 E E' s1 s2 n n' : Nat} {v v' : Value} {c c' : List Value} (h : w.ownsRow b1 E s1 v n c) (h' : w.ownsRow b2 E' s2 v' n' c') (hne : E ≠ E') : v.ownBlock = none ∨ v.ownBlock ≠ v'.ownBlock := by
  rcases hq : v.ownBlock with _ | q
  · exact .inl rfl
  · exact .inr (fun e => rows_ne h h' hne q hq e.symm)
theorem OwSt.put2 {w W W' : World} {v : Mv} {V u : Value} {ds : List Mc} {k E s n : Nat} {cs : List Value} (h : OwSt w W v V ds k) (hr : RdMe w v) (hu : W.ownsRow (w.heap.size + 2) E s u n cs) (g : W.grownBy W' u.ownBlock) (h1 : EM ≠ E) (h2 : EI ≠ E) (b : Below (w.heap.size + 2) W W') : OwSt w W' v V ds k :=
  ⟨h.st.high hr b, ⟨World.ownsRow.kept h.m.row g (rows_or h.m.row hu h1), fun c hc => (h.m.nx c hc).only g (rows_or (h.m.nx c hc) hu h2), h.m.apart⟩, h.md⟩
set_option maxRecDepth 100000 in
set_option maxHeartbeats 4000000 in
set_option linter.unusedSimpArgs false in
theorem sCopyMe_any (v : Mv) (w : World) (hr : RdMe w v) : Calls Tryz.prog 63 #[mvVal v] w (GivesMe w v.me) := by
  have HX0 := Lib.hid (CpSt.start hr)
  have HRD := Lib.hid hr
  have HL := Lib.hid hr.ml
  have HNN := Lib.hid hr.nl
  have HNE := Lib.hid hr.el
  clear hr
  unfold mvVal
  go_enter Tryz.func63, Tryz.ntmps63
  go_upto_region 1 with fail
  generalize (w.alloc (.cells #[.int .i64 v.id, .slice v.no v.n.length v.nc, .slice v.mo v.cs.length v.mc, .slice v.eo v.e.length v.ec] 28)).alloc (.cells #[.int .i64 0, .slice none 0 0, .slice none 0 0, .slice none 0 0] 28) = w0 at HX0 ⊢
  have HO0 := Lib.hid (⟨HX0.out.call ((Below.refl w0.heap.size w0).alloc (Nat.le_refl _) (.cells #[] 37)), ⟨World.ownsRow_made w0 #[] 0 HX0.out.lt2 (by unfold maxLen; omega) rfl, (fun c hc => by cases hc), List.Pairwise.nil⟩, rfl⟩ : OwSt w (w0.alloc (.cells #[] 37)) v (.slice (some ⟨w0.heap.size, 0, none⟩) 0 0) [] 0)
  go_wp2_with fail
  go_loopw [3, 4] (fun s i wr => ∃ (k : Nat) (ds : List Mc) (V : Value), k ≤ v.cs.length ∧ V = s ∧ i = .int .i64 k ∧ Hid (OwSt w wr v V ds k)) (fun _ i _ => v.cs.length - (intOf i).toNat)
  case atStart => exact ⟨0, [], _, Nat.zero_le _, rfl, rfl, HO0⟩
  case round =>
    clear HO0 HX0
    obtain ⟨k, ds, V, hk, rfl, rfl, HO⟩ := hrel
    obtain ⟨z0, z1, z2, z3⟩ := HO.out.st.box.all
    by_cases hlt : k < v.cs.length
    · have hk20 : k ≤ 1048576 := by have := HL.out; omega
      obtain ⟨b, off, e0, -, -, -⟩ := HO.out.st.rd.rm.at hlt
      have hnl := HRD.out.ms _ (mcOf_mem hlt)
      have HAT := Lib.hid (fun W (hW : RdMe W v) => hW.rm.at hlt)
      have HMD := Lib.hid (fun (d : Mc) (hd : d.md = (mcOf v.cs k).md) => mds_snoc hlt HO.out.md hd)
      have HDL := Lib.hid (show ds.length ≤ 1048576 from by have := congrArg List.length HO.out.md; rw [mds_len, mds_len, List.length_take] at this; omega)
      generalize mcOf v.cs k = x at hnl HAT HMD
      have HNL := Lib.hid hnl
      have HSF := Lib.hid (fun w' (hW : CpSt w w' v) => (show w'.cell? ⟨w.heap.size, 2, none⟩ = some (.slice (some ⟨b, off, none⟩) v.cs.length v.mc) ∧ w'.cell? ⟨b, off + k * 3, none⟩ = some (.int .i64 x.md.rounds) ∧ w'.cell? ⟨b, off + k * 3 + 1, none⟩ = some (.int .i64 x.md.slots) ∧ w'.cell? ⟨b, off + k * 3 + 2, none⟩ = some (.slice x.ao x.md.next.length x.cap) from by
        obtain ⟨b', off', e', -, hx, -⟩ := HAT.out _ hW.rd
        rw [e0] at e'
        cases e'
        exact ⟨by rw [← e0]; exact hW.box.in_.c2, hx.c0, hx.c1, hx.c2⟩))
      have HRX := Lib.hid (fun W (hW : RdMe W v) => (show Rd W x.ao x.md.next.length x.md.next from by
        obtain ⟨_, _, _, _, _, h⟩ := HAT.out W hW
        exact h.rd))
      have gk : (k : Int) < (v.cs.length : Int) := by omega
      clear e0
      go_wp2_with fail
      clear z0 z1 z2 z3
      have HO3 := Lib.hid (HO.out.call (Below.drew (Below.refl wr.heap.size wr)))
      have HRX3 := Lib.hid (HRX.out _ HO3.out.st.rd)
      refine wp_region_held_drew (S := fun w' => w'.cell? ⟨w.heap.size, 2, none⟩ = some (.slice (some ⟨b, off, none⟩) v.cs.length v.mc) ∧ w'.cell? ⟨b, off + k * 3, none⟩ = some (.int .i64 x.md.rounds) ∧ w'.cell? ⟨b, off + k * 3 + 1, none⟩ = some (.int .i64 x.md.slots) ∧ w'.cell? ⟨b, off + k * 3 + 2, none⟩ = some (.slice x.ao x.md.next.length x.cap)) (by kernel_rfl) (HSF.out _ HO3.out.st) (fun hHeld => ?_)
      generalize wr.drew = w4 at HO3 HRX3 hHeld ⊢
      clear HO
      refine wpAnyH_take (i := 0) (v := ?_) rfl (by kernel_rfl) (by kernel_rfl) (by kernel_rfl) (fun _ _ _ h => h) (Or.inl ⟨by rfl, ?_⟩) (by assumption) ?_
      rotate_left
      · (intro w hSw; (try dsimp only at hSw); go_simp; (try with_reducible rfl))
      try simp only [List.getElem_toArray, List.getElem_cons_succ, List.getElem_cons_zero, Act.put, List.setIfInBounds_toArray, List.set_cons_zero, List.set_cons_succ]
      refine wpAnyH_take (i := 1) (v := ?_) rfl (by kernel_rfl) (by kernel_rfl) (by kernel_rfl) (fun _ _ _ h => h) (Or.inl ⟨by rfl, ?_⟩) (by assumption) ?_
      rotate_left
      · (intro w hSw; (try dsimp only at hSw); go_simp; (try with_reducible rfl))
      try simp only [List.getElem_toArray, List.getElem_cons_succ, List.getElem_cons_zero, Act.put, List.setIfInBounds_toArray, List.set_cons_zero, List.set_cons_succ]
      refine wpAnyH_take (i := 2) (v := ?_) rfl (by kernel_rfl) (by kernel_rfl) (by kernel_rfl) (fun _ _ _ h => h) (Or.inl ⟨by rfl, ?_⟩) (by assumption) ?_
      rotate_left
      · (intro w hSw; (try dsimp only at hSw); go_simp; (try with_reducible rfl))
      try simp only [List.getElem_toArray, List.getElem_cons_succ, List.getElem_cons_zero, Act.put, List.setIfInBounds_toArray, List.set_cons_zero, List.set_cons_succ]
      refine wpAnyH_take (i := 3) (v := ?_) rfl (by kernel_rfl) (by kernel_rfl) (by kernel_rfl) (fun _ _ _ h => h) (Or.inl ⟨by rfl, ?_⟩) (by assumption) ?_
      rotate_left
      · (intro w hSw; (try dsimp only at hSw); go_simp; (try with_reducible rfl))
      try simp only [List.getElem_toArray, List.getElem_cons_succ, List.getElem_cons_zero, Act.put, List.setIfInBounds_toArray, List.set_cons_zero, List.set_cons_succ]
      refine wpAnyH_take (i := 4) (v := ?_) rfl (by kernel_rfl) (by kernel_rfl) (by kernel_rfl) (fun _ _ _ h => h) (Or.inl ⟨by rfl, ?_⟩) (by assumption) ?_
      rotate_left
      · (intro w hSw; (try dsimp only at hSw); go_simp; (try with_reducible rfl))
      try simp only [List.getElem_toArray, List.getElem_cons_succ, List.getElem_cons_zero, Act.put, List.setIfInBounds_toArray, List.set_cons_zero, List.set_cons_succ]
      refine wpAnyH_take (i := 5) (v := ?_) rfl (by kernel_rfl) (by kernel_rfl) (by kernel_rfl) (fun _ _ _ h => h) (Or.inl ⟨by rfl, ?_⟩) (by assumption) ?_
      rotate_left
      · (intro w hSw; (try dsimp only at hSw); go_simp; (try with_reducible rfl))
      try simp only [List.getElem_toArray, List.getElem_cons_succ, List.getElem_cons_zero, Act.put, List.setIfInBounds_toArray, List.set_cons_zero, List.set_cons_succ]
      refine wpAnyH_take (i := 6) (v := ?_) rfl (by kernel_rfl) (by kernel_rfl) (by kernel_rfl) (fun _ _ _ h => h) (Or.inl ⟨by rfl, ?_⟩) (by assumption) ?_
      rotate_left
      · (intro w hSw; (try dsimp only at hSw); go_simp; (try with_reducible rfl))
      try simp only [List.getElem_toArray, List.getElem_cons_succ, List.getElem_cons_zero, Act.put, List.setIfInBounds_toArray, List.set_cons_zero, List.set_cons_succ]
      refine wpAnyH_take (i := 7) (v := ?_) rfl (by kernel_rfl) (by kernel_rfl) (by kernel_rfl) (fun _ _ _ h => h) (Or.inl ⟨by rfl, ?_⟩) (by assumption) ?_
      rotate_left
      · (intro w hSw; (try dsimp only at hSw); go_simp; (try with_reducible rfl))
      try simp only [List.getElem_toArray, List.getElem_cons_succ, List.getElem_cons_zero, Act.put, List.setIfInBounds_toArray, List.set_cons_zero, List.set_cons_succ]
      refine wpAnyH_take (i := 8) (v := ?_) rfl (by kernel_rfl) (by kernel_rfl) (by kernel_rfl) (fun _ _ _ h => h) (Or.inl ⟨by rfl, ?_⟩) (by assumption) ?_
      rotate_left
      · (intro w hSw; (try dsimp only at hSw); go_simp; (try with_reducible rfl))
      try simp only [List.getElem_toArray, List.getElem_cons_succ, List.getElem_cons_zero, Act.put, List.setIfInBounds_toArray, List.set_cons_zero, List.set_cons_succ]
      refine wpAnyH_take (i := 9) (v := ?_) rfl (by kernel_rfl) (by kernel_rfl) (by kernel_rfl) (fun _ _ _ h => h) (Or.inl ⟨by rfl, ?_⟩) (by assumption) ?_
      rotate_left
      · (intro w hSw; (try dsimp only at hSw); go_simp; (try with_reducible rfl))
      try simp only [List.getElem_toArray, List.getElem_cons_succ, List.getElem_cons_zero, Act.put, List.setIfInBounds_toArray, List.set_cons_zero, List.set_cons_succ]
      refine wpAnyH_take (i := 10) (v := ?_) rfl (by kernel_rfl) (by kernel_rfl) (by kernel_rfl) (fun _ _ _ h => h) (Or.inl ⟨by rfl, ?_⟩) (by assumption) ?_
      rotate_left
      · (intro w hSw; (try dsimp only at hSw); go_simp; (try with_reducible rfl))
      try simp only [List.getElem_toArray, List.getElem_cons_succ, List.getElem_cons_zero, Act.put, List.setIfInBounds_toArray, List.set_cons_zero, List.set_cons_succ]
      refine wpAnyH_take (i := 11) (v := ?_) rfl (by kernel_rfl) (by kernel_rfl) (by kernel_rfl) (fun _ _ _ h => h) (Or.inl ⟨by rfl, ?_⟩) (by assumption) ?_
      rotate_left
      · (intro w hSw; (try dsimp only at hSw); go_simp; (try with_reducible rfl))
      try simp only [List.getElem_toArray, List.getElem_cons_succ, List.getElem_cons_zero, Act.put, List.setIfInBounds_toArray, List.set_cons_zero, List.set_cons_succ]
      refine wpAnyH_take (i := 12) (v := ?_) rfl (by kernel_rfl) (by kernel_rfl) (by kernel_rfl) (fun _ _ _ h => h) (Or.inl ⟨by rfl, ?_⟩) (by assumption) ?_
      rotate_left
      · (intro w hSw; (try dsimp only at hSw); go_simp; (try with_reducible rfl))
      try simp only [List.getElem_toArray, List.getElem_cons_succ, List.getElem_cons_zero, Act.put, List.setIfInBounds_toArray, List.set_cons_zero, List.set_cons_succ]
      refine wpAnyH_take (i := 13) (v := ?_) rfl (by kernel_rfl) (by kernel_rfl) (by kernel_rfl) (fun _ _ _ h => h) (Or.inl ⟨by rfl, ?_⟩) (by assumption) ?_
      rotate_left
      · (intro w hSw; (try dsimp only at hSw); go_simp; (try with_reducible rfl))
      try simp only [List.getElem_toArray, List.getElem_cons_succ, List.getElem_cons_zero, Act.put, List.setIfInBounds_toArray, List.set_cons_zero, List.set_cons_succ]
      refine wpAnyH_take (i := 14) (v := ?_) rfl (by kernel_rfl) (by kernel_rfl) (by kernel_rfl) (fun _ _ _ h => h) (Or.inl ⟨by rfl, ?_⟩) (by assumption) ?_
      rotate_left
      · (intro w hSw; (try dsimp only at hSw); go_simp; (try with_reducible rfl))
      try simp only [List.getElem_toArray, List.getElem_cons_succ, List.getElem_cons_zero, Act.put, List.setIfInBounds_toArray, List.set_cons_zero, List.set_cons_succ]
      refine wpAnyH_take (i := 15) (v := ?_) rfl (by kernel_rfl) (by kernel_rfl) (by kernel_rfl) (fun _ _ _ h => h) (Or.inl ⟨by rfl, ?_⟩) (by assumption) ?_
      rotate_left
      · (intro w hSw; (try dsimp only at hSw); go_simp; (try with_reducible rfl))
      try simp only [List.getElem_toArray, List.getElem_cons_succ, List.getElem_cons_zero, Act.put, List.setIfInBounds_toArray, List.set_cons_zero, List.set_cons_succ]
      refine wpAnyH_take (i := 16) (v := ?_) rfl (by kernel_rfl) (by kernel_rfl) (by kernel_rfl) (fun _ _ _ h => h) (Or.inl ⟨by rfl, ?_⟩) (by assumption) ?_
      rotate_left
      · (intro w hSw; (try dsimp only at hSw); go_simp; (try with_reducible rfl))
      try simp only [List.getElem_toArray, List.getElem_cons_succ, List.getElem_cons_zero, Act.put, List.setIfInBounds_toArray, List.set_cons_zero, List.set_cons_succ]
      refine wpAnyH_take (i := 17) (v := ?_) rfl (by kernel_rfl) (by kernel_rfl) (by kernel_rfl) (fun _ _ _ h => h) (Or.inl ⟨by rfl, ?_⟩) (by assumption) ?_
      rotate_left
      · (intro w hSw; (try dsimp only at hSw); go_simp; (try with_reducible rfl))
      try simp only [List.getElem_toArray, List.getElem_cons_succ, List.getElem_cons_zero, Act.put, List.setIfInBounds_toArray, List.set_cons_zero, List.set_cons_succ]
      refine wpAnyH_take (i := 18) (v := ?_) rfl (by kernel_rfl) (by kernel_rfl) (by kernel_rfl) (fun _ _ _ h => h) (Or.inl ⟨by rfl, ?_⟩) (by assumption) ?_
      rotate_left
      · (intro w hSw; (try dsimp only at hSw); go_simp; (try with_reducible rfl))
      try simp only [List.getElem_toArray, List.getElem_cons_succ, List.getElem_cons_zero, Act.put, List.setIfInBounds_toArray, List.set_cons_zero, List.set_cons_succ]
      refine wpAnyH_ready (rs := [19]) (by kernel_rfl) (by simp) (AllReadyH.cons rfl (fun K hK => ?_) AllReadyH.nil)
      go_simp
      refine (l01Own_any _ _ _ _ HRX3.out HNL.out).mono ?_
      rintro q w5 mk
      obtain ⟨ao, cp, rfl, oo, -, bk⟩ := mk.get
      have HA := Lib.hid (fun d (hd : d ∈ ds) b (e : d.v.ownBlock = some b) (e2 : (Value.slice ao x.md.next.length cp).ownBlock = some b) => (show False from by have h1 := (oo.block b e2).1; have h2 := ((HO3.out.m.nx d hd).block b e).2; omega))
      replace oo := oo.more (base' := w.heap.size + 2) HO3.out.st.lt2
      have HO4 := Lib.hid (HO3.out.call bk)
      have HXC4 := Lib.hid (HSF.out _ (HO4.out.st))
      go_wp2_with fail
      refine hK.out _ _ ?_ (fun hHeld => ?_)
      · exact HXC4.out
      clear hK K mk HO3
      try simp only [List.getElem_toArray, List.getElem_cons_succ, List.getElem_cons_zero, Act.put, List.setIfInBounds_toArray, List.set_cons_zero, List.set_cons_succ]
      refine wpAnyH_take (i := 20) (v := ?_) rfl (by kernel_rfl) (by kernel_rfl) (by kernel_rfl) (fun _ _ _ h => h) (Or.inl ⟨by rfl, ?_⟩) (by assumption) ?_
      rotate_left
      · (intro w hSw; (try dsimp only at hSw); go_simp; (try with_reducible rfl))
      try simp only [List.getElem_toArray, List.getElem_cons_succ, List.getElem_cons_zero, Act.put, List.setIfInBounds_toArray, List.set_cons_zero, List.set_cons_succ]
      refine wpAnyH_ready (rs := [21]) (by kernel_rfl) (by simp) (AllReadyH.cons rfl (fun K hK => ?_) AllReadyH.nil)
      go_simp
      have bal := (Below.refl w5.heap.size w5).alloc (Nat.le_refl _) (.cells #[.int .i64 x.md.rounds, .int .i64 x.md.slots, .slice ao x.md.next.length cp] 37)
      have HO5 := Lib.hid (HO4.out.call bal)
      have oo5 := oo.below bal
      have ZB : McIn (w5.alloc (.cells #[.int .i64 x.md.rounds, .int .i64 x.md.slots, .slice ao x.md.next.length cp] 37)) w5.heap.size 0 ⟨x.md, ao, cp⟩ := (McAt.new (T := 37) (c := ⟨x.md, ao, cp⟩) w5).in_
      obtain ⟨B5, hB5⟩ : ∃ B, B = w5.heap.size := ⟨_, rfl⟩
      rw [← hB5] at ZB ⊢
      clear hB5 bal HO4 oo
      generalize w5.alloc (.cells #[.int .i64 x.md.rounds, .int .i64 x.md.slots, .slice ao x.md.next.length cp] 37) = w6 at HO5 oo5 ZB ⊢
      refine hK.out _ _ ?_ (fun hHeld => ?_)
      · exact HSF.out _ HO5.out.st
      clear hK K HXC4
      try simp only [List.getElem_toArray, List.getElem_cons_succ, List.getElem_cons_zero, Act.put, List.setIfInBounds_toArray, List.set_cons_zero, List.set_cons_succ]
      refine wpAnyH_ready (rs := [22]) (by kernel_rfl) (by simp) (AllReadyH.cons rfl (fun K hK => ?_) AllReadyH.nil)
      refine appM_op _ (show EM ≠ EI by decide) (.tmp 13) (.tmp 34) rfl (w.heap.size + 2) Tryz.underlying25 infoM13 V ds rfl HO5.out.m B5 ⟨x.md, ao, cp⟩ _ rfl ZB oo5 (fun d hd b e e2 => HA.out d hd b e e2) (by have := HDL.out; omega) HO5.out.st.lt2 ?_
      intro v7 w7 o7 g7
      have bb : Below (w.heap.size + 2) w6 w7 := (Below.refl _ _).grown g7 HO5.out.st.lt2 (fun q hq => (World.ownsRow.lt HO5.out.m.row q hq).1)
      have HN := Lib.hid (⟨HO5.out.st.high HRD.out bb, o7, HMD.out ⟨x.md, ao, cp⟩ rfl⟩ : OwSt w w7 v v7 (ds ++ [⟨x.md, ao, cp⟩]) (k + 1))
      clear bb g7 o7
      refine hK.out _ _ ?_ (fun hHeld => ?_)
      · exact HSF.out _ HN.out.st
      clear hK K
      try simp only [List.getElem_toArray, List.getElem_cons_succ, List.getElem_cons_zero, Act.put, List.setIfInBounds_toArray, List.set_cons_zero, List.set_cons_succ]
      refine wpAnyH_take (i := 23) (v := ?_) rfl (by kernel_rfl) (by kernel_rfl) (by kernel_rfl) (fun _ _ _ h => h) (Or.inl ⟨by rfl, ?_⟩) (by assumption) ?_
      rotate_left
      · (intro w hSw; (try dsimp only at hSw); go_simp; (try with_reducible rfl))
      try simp only [List.getElem_toArray, List.getElem_cons_succ, List.getElem_cons_zero, Act.put, List.setIfInBounds_toArray, List.set_cons_zero, List.set_cons_succ]
      refine wpAnyH_done (by kernel_rfl) ?_ _
      go_wp2_with fail
      go_roundw
      case rel => exact ⟨k + 1, ds ++ [⟨x.md, ao, cp⟩], v7, by omega, rfl, by go_num, HN⟩
      case measure => simp [intOf]; omega
    · have hkn : k = v.cs.length := by omega
      subst hkn
      have HMF := Lib.hid (show mds ds = mds v.cs from by have := HO.out.md; rwa [List.take_length] at this)
      obtain ⟨a2, c2, eV⟩ : ∃ ao cap, V = .slice ao ds.length cap := by obtain ⟨ao, cap, e, -⟩ := HO.out.m.get; exact ⟨ao, cap, e⟩
      subst eV
      go_wp2_with fail
      clear z0 z1 z2 z3
      have HO1 := Lib.hid (HO.out.call (Below.drew (Below.refl wr.heap.size wr)))
      refine wp_region_held_drew (S := fun w' => w'.cell? ⟨w.heap.size, 0, none⟩ = some (.int .i64 v.id) ∧ w'.cell? ⟨w.heap.size, 1, none⟩ = some (.slice v.no v.n.length v.nc) ∧ w'.cell? ⟨w.heap.size, 2, none⟩ = some (.slice v.mo v.cs.length v.mc) ∧ w'.cell? ⟨w.heap.size, 3, none⟩ = some (.slice v.eo v.e.length v.ec)) (by kernel_rfl) (HO1.out.st.box.all) (fun hHeld => ?_)
      generalize wr.drew = w1 at HO1 hHeld ⊢
      clear HO
      refine wpAnyH_take (i := 0) (v := ?_) rfl (by kernel_rfl) (by kernel_rfl) (by kernel_rfl) (fun _ _ _ h => h) (Or.inl ⟨by rfl, ?_⟩) (by assumption) ?_
      rotate_left
      · (intro w hSw; (try dsimp only at hSw); go_simp; (try with_reducible rfl))
      try simp only [List.getElem_toArray, List.getElem_cons_succ, List.getElem_cons_zero, Act.put, List.setIfInBounds_toArray, List.set_cons_zero, List.set_cons_succ]
      refine wpAnyH_take (i := 1) (v := ?_) rfl (by kernel_rfl) (by kernel_rfl) (by kernel_rfl) (fun _ _ _ h => h) (Or.inl ⟨by rfl, ?_⟩) (by assumption) ?_
      rotate_left
      · (intro w hSw; (try dsimp only at hSw); go_simp; (try with_reducible rfl))
      try simp only [List.getElem_toArray, List.getElem_cons_succ, List.getElem_cons_zero, Act.put, List.setIfInBounds_toArray, List.set_cons_zero, List.set_cons_succ]
      refine wpAnyH_take (i := 3) (v := ?_) rfl (by kernel_rfl) (by kernel_rfl) (by kernel_rfl) (fun _ _ _ h => h) (Or.inl ⟨by rfl, ?_⟩) (by assumption) ?_
      rotate_left
      · (intro w hSw; (try dsimp only at hSw); go_simp; (try with_reducible rfl))
      try simp only [List.getElem_toArray, List.getElem_cons_succ, List.getElem_cons_zero, Act.put, List.setIfInBounds_toArray, List.set_cons_zero, List.set_cons_succ]
      refine wpAnyH_take (i := 4) (v := ?_) rfl (by kernel_rfl) (by kernel_rfl) (by kernel_rfl) (fun _ _ _ h => h) (Or.inl ⟨by rfl, ?_⟩) (by assumption) ?_
      rotate_left
      · (intro w hSw; (try dsimp only at hSw); go_simp; (try with_reducible rfl))
      try simp only [List.getElem_toArray, List.getElem_cons_succ, List.getElem_cons_zero, Act.put, List.setIfInBounds_toArray, List.set_cons_zero, List.set_cons_succ]
      refine wpAnyH_take (i := 6) (v := ?_) rfl (by kernel_rfl) (by kernel_rfl) (by kernel_rfl) (fun _ _ _ h => h) (Or.inl ⟨by rfl, ?_⟩) (by assumption) ?_
      rotate_left
      · (intro w hSw; (try dsimp only at hSw); go_simp; (try with_reducible rfl))
      try simp only [List.getElem_toArray, List.getElem_cons_succ, List.getElem_cons_zero, Act.put, List.setIfInBounds_toArray, List.set_cons_zero, List.set_cons_succ]
      refine wpAnyH_take (i := 8) (v := ?_) rfl (by kernel_rfl) (by kernel_rfl) (by kernel_rfl) (fun _ _ _ h => h) (Or.inl ⟨by rfl, ?_⟩) (by assumption) ?_
      rotate_left
      · (intro w hSw; (try dsimp only at hSw); go_simp; (try with_reducible rfl))
      try simp only [List.getElem_toArray, List.getElem_cons_succ, List.getElem_cons_zero, Act.put, List.setIfInBounds_toArray, List.set_cons_zero, List.set_cons_succ]
      refine wpAnyH_take (i := 9) (v := ?_) rfl (by kernel_rfl) (by kernel_rfl) (by kernel_rfl) (fun _ _ _ h => h) (Or.inl ⟨by rfl, ?_⟩) (by assumption) ?_
      rotate_left
      · (intro w hSw; (try dsimp only at hSw); go_simp; (try with_reducible rfl))
      try simp only [List.getElem_toArray, List.getElem_cons_succ, List.getElem_cons_zero, Act.put, List.setIfInBounds_toArray, List.set_cons_zero, List.set_cons_succ]
      refine wpAnyH_ready (rs := [2, 7]) (by kernel_rfl) (by simp) (AllReadyH.cons rfl (fun K hK => ?_) (AllReadyH.cons rfl (fun K hK => ?_) AllReadyH.nil))
      · go_simp
        have bal := (Below.refl w1.heap.size w1).alloc (Nat.le_refl _) (.cells #[] 89)
        have rn : (w1.alloc (.cells #[] 89)).ownsRow (w.heap.size + 2) EN 4 (.slice (some ⟨w1.heap.size, 0, none⟩) 0 0) 0 [] := World.ownsRow_made w1 #[] 0 HO1.out.st.lt2 (by unfold maxLen; omega) rfl
        have HO2 := Lib.hid (HO1.out.call bal)
        obtain ⟨Brn, hB⟩ : ∃ B, B = w1.heap.size := ⟨_, rfl⟩
        rw [← hB] at rn ⊢
        clear hB bal
        generalize w1.alloc (.cells #[] 89) = w2 at HO2 rn ⊢
        refine hK.out _ _ ?_ (fun hHeld => ?_)
        · exact HO2.out.st.box.all
        clear hK K
        try simp only [List.getElem_toArray, List.getElem_cons_succ, List.getElem_cons_zero, Act.put, List.setIfInBounds_toArray, List.set_cons_zero, List.set_cons_succ]
        refine wpAnyH_ready (rs := [5, 7]) (by kernel_rfl) (by simp) (AllReadyH.cons rfl (fun K hK => ?_) (AllReadyH.cons rfl (fun K hK => ?_) AllReadyH.nil))
        · refine appR_op _ (.tmp 38) (.tmp 40) rfl (w.heap.size + 2) Tryz.underlying24 (ndVal Nd.zero) 4 40 infoN13 rfl (by decide) _ 0 [] rfl rn v.no v.n.length v.nc (v.n.flatMap ndCells) rfl (fun e => nil_nd HO2.out.st.rd.rn e) (by rw [flatN_len]) (fun ad e => flatN_cells HO2.out.st.rd.rn e) one_nd (by have := HNN.out; unfold maxLen; omega) (by have := HNN.out; omega) HO2.out.st.lt2 ?_
          intro vq w3 oq gq
          rw [Nat.zero_add, List.nil_append] at oq
          have bb : Below (w.heap.size + 2) w2 w3 := (Below.refl _ _).grown gq HO2.out.st.lt2 (fun q hq => (World.ownsRow.lt rn q hq).1)
          have HO3 := Lib.hid (HO2.out.put2 HRD.out rn gq (by decide) (by decide) bb)
          obtain ⟨a1, c1, rfl⟩ := row_form oq
          have on := oq
          clear oq bb rn gq
          refine hK.out _ _ ?_ (fun hHeld => ?_)
          · exact HO3.out.st.box.all
          clear hK K
          try simp only [List.getElem_toArray, List.getElem_cons_succ, List.getElem_cons_zero, Act.put, List.setIfInBounds_toArray, List.set_cons_zero, List.set_cons_succ]
          refine wpAnyH_ready (rs := [7]) (by kernel_rfl) (by simp) (AllReadyH.cons rfl (fun K hK => ?_) AllReadyH.nil)
          go_simp
          have bal := (Below.refl w3.heap.size w3).alloc (Nat.le_refl _) (.cells #[] 74)
          replace on := ownsRow_below on bal
          have re : (w3.alloc (.cells #[] 74)).ownsRow (w.heap.size + 2) ES 8 (.slice (some ⟨w3.heap.size, 0, none⟩) 0 0) 0 [] := World.ownsRow_made w3 #[] 0 HO3.out.st.lt2 (by unfold maxLen; omega) rfl
          have HO4 := Lib.hid (HO3.out.call bal)
          obtain ⟨Bre, hB⟩ : ∃ B, B = w3.heap.size := ⟨_, rfl⟩
          rw [← hB] at re ⊢
          clear hB bal
          generalize w3.alloc (.cells #[] 74) = w4 at HO4 on re ⊢
          refine hK.out _ _ ?_ (fun hHeld => ?_)
          · exact HO4.out.st.box.all
          clear hK K
          try simp only [List.getElem_toArray, List.getElem_cons_succ, List.getElem_cons_zero, Act.put, List.setIfInBounds_toArray, List.set_cons_zero, List.set_cons_succ]
          refine wpAnyH_ready (rs := [10]) (by kernel_rfl) (by simp) (AllReadyH.cons rfl (fun K hK => ?_) AllReadyH.nil)
          refine appR_op _ (.tmp 43) (.tmp 45) rfl (w.heap.size + 2) Tryz.underlying26 (slVal Sl.zero) 8 64 infoE13 rfl (by decide) _ 0 [] rfl re v.eo v.e.length v.ec (v.e.flatMap slCells) rfl (fun e => nil_sl HO4.out.st.rd.re e) (by rw [flatE_len]) (fun ad e => flatS_cells HO4.out.st.rd.re e) one_sl (by have := HNE.out; unfold maxLen; omega) (by have := HNE.out; omega) HO4.out.st.lt2 ?_
          intro vq w5 oq gq
          rw [Nat.zero_add, List.nil_append] at oq
          have bb : Below (w.heap.size + 2) w4 w5 := (Below.refl _ _).grown gq HO4.out.st.lt2 (fun q hq => (World.ownsRow.lt re q hq).1)
          have HO5 := Lib.hid (HO4.out.put2 HRD.out re gq (by decide) (by decide) bb)
          replace on := World.ownsRow.kept on gq (rows_or on re (by decide))
          obtain ⟨a3, c3, rfl⟩ := row_form oq
          have oe := oq
          clear oq bb re gq
          refine hK.out _ _ ?_ (fun hHeld => ?_)
          · exact HO5.out.st.box.all
          clear hK K
          try simp only [List.getElem_toArray, List.getElem_cons_succ, List.getElem_cons_zero, Act.put, List.setIfInBounds_toArray, List.set_cons_zero, List.set_cons_succ]
          refine wpAnyH_take (i := 11) (v := ?_) rfl (by kernel_rfl) (by kernel_rfl) (by kernel_rfl) (fun _ _ _ h => h) (Or.inl ⟨by rfl, ?_⟩) (by assumption) ?_
          rotate_left
          · (intro w hSw; (try dsimp only at hSw); go_simp; (try with_reducible rfl))
          try simp only [List.getElem_toArray, List.getElem_cons_succ, List.getElem_cons_zero, Act.put, List.setIfInBounds_toArray, List.set_cons_zero, List.set_cons_succ]
          have rc := HO5.out.st.res.all
          dsimp only [Mv.zero, List.length_nil] at rc
          obtain ⟨r0, r1, r2, r3⟩ := rc
          have f0 := HO5.out.st.res.f 0
          have f1 := HO5.out.st.res.f 1
          have f2 := HO5.out.st.res.f 2
          have f3 := HO5.out.st.res.f 3
          refine wpAnyH_ready (rs := [12]) (by kernel_rfl) (by simp) (AllReadyH.cons rfl (fun K hK => ?_) AllReadyH.nil)
          go_simp
          clear r0 r1 r2 r3 f0 f1 f2 f3
          change K _ (setMv w5 (w.heap.size + 1) ⟨v.id, v.n, a1, c1, ds, a2, c2, v.e, a3, c3⟩)
          have ZF := HO5.out.st.res.put ⟨v.id, v.n, a1, c1, ds, a2, c2, v.e, a3, c3⟩
          have BF := HO5.out.st.below.trans (below_setMv (B := w.heap.size) (w := w5) (Nat.le_succ _) ⟨v.id, v.n, a1, c1, ds, a2, c2, v.e, a3, c3⟩)
          have hown : OwnMe w5 (w.heap.size + 2) ⟨v.id, v.n, a1, c1, ds, a2, c2, v.e, a3, c3⟩ := ⟨on, HO5.out.m, oe⟩
          have gs := grown_setMv w5 (w.heap.size + 1) ⟨v.id, v.n, a1, c1, ds, a2, c2, v.e, a3, c3⟩
          have HOW := Lib.hid (hown.other HO5.out.st.res gs)
          have bx : MvAt 28 (setMv w5 (w.heap.size + 1) ⟨v.id, v.n, a1, c1, ds, a2, c2, v.e, a3, c3⟩) w.heap.size v := HO5.out.st.box.below (below_setMv (B := w.heap.size + 1) (w := w5) (Nat.le_refl _) ⟨v.id, v.n, a1, c1, ds, a2, c2, v.e, a3, c3⟩) (Nat.lt_succ_self _)
          generalize setMv w5 (w.heap.size + 1) ⟨v.id, v.n, a1, c1, ds, a2, c2, v.e, a3, c3⟩ = wz at ZF BF HOW bx ⊢
          refine hK.out _ _ ?_ (fun hHeld => ?_)
          · exact bx.all
          clear hK K
          try simp only [List.getElem_toArray, List.getElem_cons_succ, List.getElem_cons_zero, Act.put, List.setIfInBounds_toArray, List.set_cons_zero, List.set_cons_succ]
          refine wpAnyH_done (by kernel_rfl) ?_ _
          go_wp2_with fail
          obtain ⟨e0, e1, e2, e3⟩ := ZF.all
          dsimp only at e0 e1 e2 e3
          exact bodyPost_ret (v := mvVal ⟨v.id, v.n, a1, c1, ds, a2, c2, v.e, a3, c3⟩) (by simp [mvVal, results, Tryz.results63, go_sem, e0, e1, e2, e3]) rfl ⟨_, by unfold Mv.me; rw [HMF.out], rfl, HOW.out.more (by omega), BF⟩
        · go_simp
          have bal := (Below.refl w2.heap.size w2).alloc (Nat.le_refl _) (.cells #[] 74)
          replace rn := ownsRow_below rn bal
          have re : (w2.alloc (.cells #[] 74)).ownsRow (w.heap.size + 2) ES 8 (.slice (some ⟨w2.heap.size, 0, none⟩) 0 0) 0 [] := World.ownsRow_made w2 #[] 0 HO2.out.st.lt2 (by unfold maxLen; omega) rfl
          have HO3 := Lib.hid (HO2.out.call bal)
          obtain ⟨Bre, hB⟩ : ∃ B, B = w2.heap.size := ⟨_, rfl⟩
          rw [← hB] at re ⊢
          clear hB bal
          generalize w2.alloc (.cells #[] 74) = w3 at HO3 rn re ⊢
          refine hK.out _ _ ?_ (fun hHeld => ?_)
          · exact HO3.out.st.box.all
          clear hK K
          try simp only [List.getElem_toArray, List.getElem_cons_succ, List.getElem_cons_zero, Act.put, List.setIfInBounds_toArray, List.set_cons_zero, List.set_cons_succ]
          refine wpAnyH_ready (rs := [5]) (by kernel_rfl) (by simp) (AllReadyH.cons rfl (fun K hK => ?_) AllReadyH.nil)
          refine appR_op _ (.tmp 38) (.tmp 40) rfl (w.heap.size + 2) Tryz.underlying24 (ndVal Nd.zero) 4 40 infoN13 rfl (by decide) _ 0 [] rfl rn v.no v.n.length v.nc (v.n.flatMap ndCells) rfl (fun e => nil_nd HO3.out.st.rd.rn e) (by rw [flatN_len]) (fun ad e => flatN_cells HO3.out.st.rd.rn e) one_nd (by have := HNN.out; unfold maxLen; omega) (by have := HNN.out; omega) HO3.out.st.lt2 ?_
          intro vq w4 oq gq
          rw [Nat.zero_add, List.nil_append] at oq
          have bb : Below (w.heap.size + 2) w3 w4 := (Below.refl _ _).grown gq HO3.out.st.lt2 (fun q hq => (World.ownsRow.lt rn q hq).1)
          have HO4 := Lib.hid (HO3.out.put2 HRD.out rn gq (by decide) (by decide) bb)
          replace re := World.ownsRow.kept re gq (rows_or re rn (by decide))
          obtain ⟨a1, c1, rfl⟩ := row_form oq
          have on := oq
          clear oq bb rn gq
          refine hK.out _ _ ?_ (fun hHeld => ?_)
          · exact HO4.out.st.box.all
          clear hK K
          try simp only [List.getElem_toArray, List.getElem_cons_succ, List.getElem_cons_zero, Act.put, List.setIfInBounds_toArray, List.set_cons_zero, List.set_cons_succ]
          refine wpAnyH_ready (rs := [10]) (by kernel_rfl) (by simp) (AllReadyH.cons rfl (fun K hK => ?_) AllReadyH.nil)
          refine appR_op _ (.tmp 43) (.tmp 45) rfl (w.heap.size + 2) Tryz.underlying26 (slVal Sl.zero) 8 64 infoE13 rfl (by decide) _ 0 [] rfl re v.eo v.e.length v.ec (v.e.flatMap slCells) rfl (fun e => nil_sl HO4.out.st.rd.re e) (by rw [flatE_len]) (fun ad e => flatS_cells HO4.out.st.rd.re e) one_sl (by have := HNE.out; unfold maxLen; omega) (by have := HNE.out; omega) HO4.out.st.lt2 ?_
          intro vq w5 oq gq
          rw [Nat.zero_add, List.nil_append] at oq
          have bb : Below (w.heap.size + 2) w4 w5 := (Below.refl _ _).grown gq HO4.out.st.lt2 (fun q hq => (World.ownsRow.lt re q hq).1)
          have HO5 := Lib.hid (HO4.out.put2 HRD.out re gq (by decide) (by decide) bb)
          replace on := World.ownsRow.kept on gq (rows_or on re (by decide))
          obtain ⟨a3, c3, rfl⟩ := row_form oq
          have oe := oq
          clear oq bb re gq
          refine hK.out _ _ ?_ (fun hHeld => ?_)
          · exact HO5.out.st.box.all
          clear hK K
          try simp only [List.getElem_toArray, List.getElem_cons_succ, List.getElem_cons_zero, Act.put, List.setIfInBounds_toArray, List.set_cons_zero, List.set_cons_succ]
          refine wpAnyH_take (i := 11) (v := ?_) rfl (by kernel_rfl) (by kernel_rfl) (by kernel_rfl) (fun _ _ _ h => h) (Or.inl ⟨by rfl, ?_⟩) (by assumption) ?_
          rotate_left
          · (intro w hSw; (try dsimp only at hSw); go_simp; (try with_reducible rfl))
          try simp only [List.getElem_toArray, List.getElem_cons_succ, List.getElem_cons_zero, Act.put, List.setIfInBounds_toArray, List.set_cons_zero, List.set_cons_succ]
          have rc := HO5.out.st.res.all
          dsimp only [Mv.zero, List.length_nil] at rc
          obtain ⟨r0, r1, r2, r3⟩ := rc
          have f0 := HO5.out.st.res.f 0
          have f1 := HO5.out.st.res.f 1
          have f2 := HO5.out.st.res.f 2
          have f3 := HO5.out.st.res.f 3
          refine wpAnyH_ready (rs := [12]) (by kernel_rfl) (by simp) (AllReadyH.cons rfl (fun K hK => ?_) AllReadyH.nil)
          go_simp
          clear r0 r1 r2 r3 f0 f1 f2 f3
          change K _ (setMv w5 (w.heap.size + 1) ⟨v.id, v.n, a1, c1, ds, a2, c2, v.e, a3, c3⟩)
          have ZF := HO5.out.st.res.put ⟨v.id, v.n, a1, c1, ds, a2, c2, v.e, a3, c3⟩
          have BF := HO5.out.st.below.trans (below_setMv (B := w.heap.size) (w := w5) (Nat.le_succ _) ⟨v.id, v.n, a1, c1, ds, a2, c2, v.e, a3, c3⟩)
          have hown : OwnMe w5 (w.heap.size + 2) ⟨v.id, v.n, a1, c1, ds, a2, c2, v.e, a3, c3⟩ := ⟨on, HO5.out.m, oe⟩
          have gs := grown_setMv w5 (w.heap.size + 1) ⟨v.id, v.n, a1, c1, ds, a2, c2, v.e, a3, c3⟩
          have HOW := Lib.hid (hown.other HO5.out.st.res gs)
          have bx : MvAt 28 (setMv w5 (w.heap.size + 1) ⟨v.id, v.n, a1, c1, ds, a2, c2, v.e, a3, c3⟩) w.heap.size v := HO5.out.st.box.below (below_setMv (B := w.heap.size + 1) (w := w5) (Nat.le_refl _) ⟨v.id, v.n, a1, c1, ds, a2, c2, v.e, a3, c3⟩) (Nat.lt_succ_self _)
          generalize setMv w5 (w.heap.size + 1) ⟨v.id, v.n, a1, c1, ds, a2, c2, v.e, a3, c3⟩ = wz at ZF BF HOW bx ⊢
          refine hK.out _ _ ?_ (fun hHeld => ?_)
          · exact bx.all
          clear hK K
          try simp only [List.getElem_toArray, List.getElem_cons_succ, List.getElem_cons_zero, Act.put, List.setIfInBounds_toArray, List.set_cons_zero, List.set_cons_succ]
          refine wpAnyH_done (by kernel_rfl) ?_ _
          go_wp2_with fail
          obtain ⟨e0, e1, e2, e3⟩ := ZF.all
          dsimp only at e0 e1 e2 e3
          exact bodyPost_ret (v := mvVal ⟨v.id, v.n, a1, c1, ds, a2, c2, v.e, a3, c3⟩) (by simp [mvVal, results, Tryz.results63, go_sem, e0, e1, e2, e3]) rfl ⟨_, by unfold Mv.me; rw [HMF.out], rfl, HOW.out.more (by omega), BF⟩
      · go_simp
        have bal := (Below.refl w1.heap.size w1).alloc (Nat.le_refl _) (.cells #[] 74)
        have re : (w1.alloc (.cells #[] 74)).ownsRow (w.heap.size + 2) ES 8 (.slice (some ⟨w1.heap.size, 0, none⟩) 0 0) 0 [] := World.ownsRow_made w1 #[] 0 HO1.out.st.lt2 (by unfold maxLen; omega) rfl
        have HO2 := Lib.hid (HO1.out.call bal)
        obtain ⟨Bre, hB⟩ : ∃ B, B = w1.heap.size := ⟨_, rfl⟩
        rw [← hB] at re ⊢
        clear hB bal
        generalize w1.alloc (.cells #[] 74) = w2 at HO2 re ⊢
        refine hK.out _ _ ?_ (fun hHeld => ?_)
        · exact HO2.out.st.box.all
        clear hK K
        try simp only [List.getElem_toArray, List.getElem_cons_succ, List.getElem_cons_zero, Act.put, List.setIfInBounds_toArray, List.set_cons_zero, List.set_cons_succ]
        refine wpAnyH_ready (rs := [2]) (by kernel_rfl) (by simp) (AllReadyH.cons rfl (fun K hK => ?_) AllReadyH.nil)
        go_simp
        have bal := (Below.refl w2.heap.size w2).alloc (Nat.le_refl _) (.cells #[] 89)
        replace re := ownsRow_below re bal
        have rn : (w2.alloc (.cells #[] 89)).ownsRow (w.heap.size + 2) EN 4 (.slice (some ⟨w2.heap.size, 0, none⟩) 0 0) 0 [] := World.ownsRow_made w2 #[] 0 HO2.out.st.lt2 (by unfold maxLen; omega) rfl
        have HO3 := Lib.hid (HO2.out.call bal)
        obtain ⟨Brn, hB⟩ : ∃ B, B = w2.heap.size := ⟨_, rfl⟩
        rw [← hB] at rn ⊢
        clear hB bal
        generalize w2.alloc (.cells #[] 89) = w3 at HO3 re rn ⊢
        refine hK.out _ _ ?_ (fun hHeld => ?_)
        · exact HO3.out.st.box.all
        clear hK K
        try simp only [List.getElem_toArray, List.getElem_cons_succ, List.getElem_cons_zero, Act.put, List.setIfInBounds_toArray, List.set_cons_zero, List.set_cons_succ]
        refine wpAnyH_ready (rs := [5]) (by kernel_rfl) (by simp) (AllReadyH.cons rfl (fun K hK => ?_) AllReadyH.nil)
        refine appR_op _ (.tmp 38) (.tmp 40) rfl (w.heap.size + 2) Tryz.underlying24 (ndVal Nd.zero) 4 40 infoN13 rfl (by decide) _ 0 [] rfl rn v.no v.n.length v.nc (v.n.flatMap ndCells) rfl (fun e => nil_nd HO3.out.st.rd.rn e) (by rw [flatN_len]) (fun ad e => flatN_cells HO3.out.st.rd.rn e) one_nd (by have := HNN.out; unfold maxLen; omega) (by have := HNN.out; omega) HO3.out.st.lt2 ?_
        intro vq w4 oq gq
        rw [Nat.zero_add, List.nil_append] at oq
        have bb : Below (w.heap.size + 2) w3 w4 := (Below.refl _ _).grown gq HO3.out.st.lt2 (fun q hq => (World.ownsRow.lt rn q hq).1)
        have HO4 := Lib.hid (HO3.out.put2 HRD.out rn gq (by decide) (by decide) bb)
        replace re := World.ownsRow.kept re gq (rows_or re rn (by decide))
        obtain ⟨a1, c1, rfl⟩ := row_form oq
        have on := oq
        clear oq bb rn gq
        refine hK.out _ _ ?_ (fun hHeld => ?_)
        · exact HO4.out.st.box.all
        clear hK K
        try simp only [List.getElem_toArray, List.getElem_cons_succ, List.getElem_cons_zero, Act.put, List.setIfInBounds_toArray, List.set_cons_zero, List.set_cons_succ]
        refine wpAnyH_ready (rs := [10]) (by kernel_rfl) (by simp) (AllReadyH.cons rfl (fun K hK => ?_) AllReadyH.nil)
        refine appR_op _ (.tmp 43) (.tmp 45) rfl (w.heap.size + 2) Tryz.underlying26 (slVal Sl.zero) 8 64 infoE13 rfl (by decide) _ 0 [] rfl re v.eo v.e.length v.ec (v.e.flatMap slCells) rfl (fun e => nil_sl HO4.out.st.rd.re e) (by rw [flatE_len]) (fun ad e => flatS_cells HO4.out.st.rd.re e) one_sl (by have := HNE.out; unfold maxLen; omega) (by have := HNE.out; omega) HO4.out.st.lt2 ?_
        intro vq w5 oq gq
        rw [Nat.zero_add, List.nil_append] at oq
        have bb : Below (w.heap.size + 2) w4 w5 := (Below.refl _ _).grown gq HO4.out.st.lt2 (fun q hq => (World.ownsRow.lt re q hq).1)
        have HO5 := Lib.hid (HO4.out.put2 HRD.out re gq (by decide) (by decide) bb)
        replace on := World.ownsRow.kept on gq (rows_or on re (by decide))
        obtain ⟨a3, c3, rfl⟩ := row_form oq
        have oe := oq
        clear oq bb re gq
        refine hK.out _ _ ?_ (fun hHeld => ?_)
        · exact HO5.out.st.box.all
        clear hK K
        try simp only [List.getElem_toArray, List.getElem_cons_succ, List.getElem_cons_zero, Act.put, List.setIfInBounds_toArray, List.set_cons_zero, List.set_cons_succ]
        refine wpAnyH_take (i := 11) (v := ?_) rfl (by kernel_rfl) (by kernel_rfl) (by kernel_rfl) (fun _ _ _ h => h) (Or.inl ⟨by rfl, ?_⟩) (by assumption) ?_
        rotate_left
        · (intro w hSw; (try dsimp only at hSw); go_simp; (try with_reducible rfl))
        try simp only [List.getElem_toArray, List.getElem_cons_succ, List.getElem_cons_zero, Act.put, List.setIfInBounds_toArray, List.set_cons_zero, List.set_cons_succ]
        have rc := HO5.out.st.res.all
        dsimp only [Mv.zero, List.length_nil] at rc
        obtain ⟨r0, r1, r2, r3⟩ := rc
        have f0 := HO5.out.st.res.f 0
        have f1 := HO5.out.st.res.f 1
        have f2 := HO5.out.st.res.f 2
        have f3 := HO5.out.st.res.f 3
        refine wpAnyH_ready (rs := [12]) (by kernel_rfl) (by simp) (AllReadyH.cons rfl (fun K hK => ?_) AllReadyH.nil)
        go_simp
        clear r0 r1 r2 r3 f0 f1 f2 f3
        change K _ (setMv w5 (w.heap.size + 1) ⟨v.id, v.n, a1, c1, ds, a2, c2, v.e, a3, c3⟩)
        have ZF := HO5.out.st.res.put ⟨v.id, v.n, a1, c1, ds, a2, c2, v.e, a3, c3⟩
        have BF := HO5.out.st.below.trans (below_setMv (B := w.heap.size) (w := w5) (Nat.le_succ _) ⟨v.id, v.n, a1, c1, ds, a2, c2, v.e, a3, c3⟩)
        have hown : OwnMe w5 (w.heap.size + 2) ⟨v.id, v.n, a1, c1, ds, a2, c2, v.e, a3, c3⟩ := ⟨on, HO5.out.m, oe⟩
        have gs := grown_setMv w5 (w.heap.size + 1) ⟨v.id, v.n, a1, c1, ds, a2, c2, v.e, a3, c3⟩
        have HOW := Lib.hid (hown.other HO5.out.st.res gs)
        have bx : MvAt 28 (setMv w5 (w.heap.size + 1) ⟨v.id, v.n, a1, c1, ds, a2, c2, v.e, a3, c3⟩) w.heap.size v := HO5.out.st.box.below (below_setMv (B := w.heap.size + 1) (w := w5) (Nat.le_refl _) ⟨v.id, v.n, a1, c1, ds, a2, c2, v.e, a3, c3⟩) (Nat.lt_succ_self _)
        generalize setMv w5 (w.heap.size + 1) ⟨v.id, v.n, a1, c1, ds, a2, c2, v.e, a3, c3⟩ = wz at ZF BF HOW bx ⊢
        refine hK.out _ _ ?_ (fun hHeld => ?_)
        · exact bx.all
        clear hK K
        try simp only [List.getElem_toArray, List.getElem_cons_succ, List.getElem_cons_zero, Act.put, List.setIfInBounds_toArray, List.set_cons_zero, List.set_cons_succ]
        refine wpAnyH_done (by kernel_rfl) ?_ _
        go_wp2_with fail
        obtain ⟨e0, e1, e2, e3⟩ := ZF.all
        dsimp only at e0 e1 e2 e3
        exact bodyPost_ret (v := mvVal ⟨v.id, v.n, a1, c1, ds, a2, c2, v.e, a3, c3⟩) (by simp [mvVal, results, Tryz.results63, go_sem, e0, e1, e2, e3]) rfl ⟨_, by unfold Mv.me; rw [HMF.out], rfl, HOW.out.more (by omega), BF⟩
set_option maxRecDepth 100000 in
set_option maxHeartbeats 4000000 in
set_option linter.unusedSimpArgs false in
theorem withId_any (v : Mv) (id : Int) (w : World) (hr : RdMe w v) : Calls Tryz.prog 20 #[mvVal v, .int .i64 id] w (GivesMe2 w (withId v.me id).1 (withId v.me id).2) := by
  have HX0 := Lib.hid (CpSt.start hr)
  have HRD := Lib.hid hr
  have HC := Lib.hid (fun W hW => isMedl_any v W hW)
  clear hr
  rcases hm : isMedl v.me with _ | _
  · rw [show withId v.me id = (Me.zero, 1) from by unfold withId; rw [if_pos hm]]
    rw [hm] at HC
    clear hm
    unfold mvVal at HC ⊢
    go_enter Tryz.func20, Tryz.ntmps20
    go_upto_region 1 with fail
    generalize (w.alloc (.cells #[.int .i64 v.id, .slice v.no v.n.length v.nc, .slice v.mo v.cs.length v.mc, .slice v.eo v.e.length v.ec] 28)).alloc (.cells #[.int .i64 0, .slice none 0 0, .slice none 0 0, .slice none 0 0] 28) = w0 at HX0 ⊢
    obtain ⟨q0, q1, q2, q3⟩ := HX0.out.box.all
    go_wp2_with fail
    refine (HC.out _ HX0.out.rd).mono ?_
    rintro e w1 ⟨rfl, b1⟩
    have HX1 := Lib.hid (HX0.out.call b1)
    clear q0 q1 q2 q3 HX0 b1
    have hr := HX1.out.res.all
    dsimp only [Mv.zero, List.length_nil] at hr
    obtain ⟨q0, q1, q2, q3⟩ := hr
    have f0 := HX1.out.res.f 0; have f1 := HX1.out.res.f 1; have f2 := HX1.out.res.f 2; have f3 := HX1.out.res.f 3
    go_wp2_with fail
    clear q0 q1 q2 q3 f0 f1 f2 f3
    change bodyPost _ _ _ _ _ (setMv _ (w.heap.size + 1) Mv.zero)
    have SF := HX1.out.res.put Mv.zero
    have BF := fun (W : World) => (below_setMv (B := w.heap.size) (w := W) (b := w.heap.size + 1) (Nat.le_succ _) Mv.zero)
    obtain ⟨e0, e1, e2, e3⟩ := SF.all
    dsimp only [Mv.zero, List.length_nil] at e0 e1 e2 e3
    exact bodyPost_ret (v := .tuple #[mvVal Mv.zero, .int .i64 1]) (by simp [mvVal, Mv.zero, results, Tryz.results20, go_sem, e0, e1, e2, e3]) rfl ⟨Mv.zero, rfl, rfl, OwnMe.zero, HX1.out.below.trans (BF _)⟩
  by_cases hi : inRange 1 16777215 id = true
  rotate_left
  · have hi : inRange 1 16777215 id = false := by simpa using hi
    rw [show withId v.me id = (Me.zero, 2) from by unfold withId; rw [if_neg (by rw [hm]; simp), if_pos hi]]
    rw [hm] at HC
    have HI := Lib.hid (fun W => isMedlId_any id W)
    rw [hi] at HI
    clear hm hi
    unfold mvVal at HC ⊢
    go_enter Tryz.func20, Tryz.ntmps20
    go_upto_region 1 with fail
    generalize (w.alloc (.cells #[.int .i64 v.id, .slice v.no v.n.length v.nc, .slice v.mo v.cs.length v.mc, .slice v.eo v.e.length v.ec] 28)).alloc (.cells #[.int .i64 0, .slice none 0 0, .slice none 0 0, .slice none 0 0] 28) = w0 at HX0 ⊢
    obtain ⟨q0, q1, q2, q3⟩ := HX0.out.box.all
    go_wp2_with fail
    refine (HC.out _ HX0.out.rd).mono ?_
    rintro e w01 ⟨rfl, b1⟩
    have HX01 := Lib.hid (HX0.out.call b1)
    clear q0 q1 q2 q3 HX0 b1
    go_wp2_with fail
    refine (HI.out _).mono ?_
    rintro e w02 ⟨rfl, b2⟩
    have HX1 := Lib.hid (HX01.out.call b2)
    clear HX01
    have hr := HX1.out.res.all
    dsimp only [Mv.zero, List.length_nil] at hr
    obtain ⟨q0, q1, q2, q3⟩ := hr
    have f0 := HX1.out.res.f 0; have f1 := HX1.out.res.f 1; have f2 := HX1.out.res.f 2; have f3 := HX1.out.res.f 3
    go_wp2_with fail
    clear q0 q1 q2 q3 f0 f1 f2 f3
    change bodyPost _ _ _ _ _ (setMv _ (w.heap.size + 1) Mv.zero)
    have SF := HX1.out.res.put Mv.zero
    have BF := fun (W : World) => (below_setMv (B := w.heap.size) (w := W) (b := w.heap.size + 1) (Nat.le_succ _) Mv.zero)
    obtain ⟨e0, e1, e2, e3⟩ := SF.all
    dsimp only [Mv.zero, List.length_nil] at e0 e1 e2 e3
    exact bodyPost_ret (v := .tuple #[mvVal Mv.zero, .int .i64 2]) (by simp [mvVal, Mv.zero, results, Tryz.results20, go_sem, e0, e1, e2, e3]) rfl ⟨Mv.zero, rfl, rfl, OwnMe.zero, HX1.out.below.trans (BF _)⟩
  rw [show withId v.me id = (⟨id, v.me.nodes, v.me.modes, v.me.slots⟩, 0) from by unfold withId; rw [if_neg (by rw [hm]; simp), if_neg (by rw [hi]; simp)]]
  rw [hm] at HC
  have HI := Lib.hid (fun W => isMedlId_any id W)
  rw [hi] at HI
  have HCP := Lib.hid (fun W hW => copyMe_any v W hW)
  clear hm hi
  unfold mvVal at HC HCP ⊢
  go_enter Tryz.func20, Tryz.ntmps20
  go_upto_region 1 with fail
  generalize (w.alloc (.cells #[.int .i64 v.id, .slice v.no v.n.length v.nc, .slice v.mo v.cs.length v.mc, .slice v.eo v.e.length v.ec] 28)).alloc (.cells #[.int .i64 0, .slice none 0 0, .slice none 0 0, .slice none 0 0] 28) = w0 at HX0 ⊢
  obtain ⟨q0, q1, q2, q3⟩ := HX0.out.box.all
  go_wp2_with fail
  refine (HC.out _ HX0.out.rd).mono ?_
  rintro e w01 ⟨rfl, b1⟩
  have HX01 := Lib.hid (HX0.out.call b1)
  clear q0 q1 q2 q3 HX0 b1
  go_wp2_with fail
  refine (HI.out _).mono ?_
  rintro e w02 ⟨rfl, b2⟩
  have HX1 := Lib.hid (HX01.out.call b2)
  clear HX01
  obtain ⟨q0, q1, q2, q3⟩ := HX1.out.box.all
  go_wp2_with fail
  refine (HCP.out _ HX1.out.rd).mono ?_
  rintro e w3 ⟨y, hy, rfl, oy, b3⟩
  have HX3 := Lib.hid (HX1.out.call b3)
  replace oy := oy.more (base' := w.heap.size + 2) HX1.out.lt2
  clear q0 q1 q2 q3 HX1 b3
  unfold mvVal
  have bal := (Below.refl w3.heap.size w3).alloc (Nat.le_refl _) (.cells #[.int .i64 y.id, .slice y.no y.n.length y.nc, .slice y.mo y.cs.length y.mc, .slice y.eo y.e.length y.ec] 28)
  have ZK := MvAt.new (T := 28) (v := y) w3
  have HX4 := Lib.hid (HX3.out.call bal)
  have OY4 := Lib.hid (oy.below bal)
  have lo := HX3.out.lt2
  obtain ⟨K, hK⟩ : ∃ K, K = w3.heap.size := ⟨_, rfl⟩
  rw [← hK] at ZK lo
  clear bal oy HX3
  go_upto_region 6 with fail
  rw [← hK]
  clear hK
  generalize w3.alloc (.cells #[.int .i64 y.id, .slice y.no y.n.length y.nc, .slice y.mo y.cs.length y.mc, .slice y.eo y.e.length y.ec] 28) = w4 at ZK HX4 OY4 ⊢
  have k0 := ZK.in_.c0
  have kf := ZK.f 0
  go_upto_region 7 with fail
  have gs := grown_set w4 K 0 (.int .i64 id)
  have HX5 := Lib.hid (HX4.out.high HRD.out ((Below.refl _ _).setCell (p := ⟨K, 0, none⟩) (show w.heap.size + 2 ≤ (⟨K, 0, none⟩ : Addr).block from lo) (.int .i64 id)))
  have OY5 := Lib.hid (OY4.out.other ZK gs)
  have ZK5 := ZK.set0 id
  clear k0 kf gs HX4 OY4
  generalize w4.setCell ⟨K, 0, none⟩ (.int .i64 id) = w5 at HX5 OY5 ZK5 ⊢
  obtain ⟨k0, k1, k2, k3⟩ := ZK5.all
  have hr := HX5.out.res.all
  dsimp only [Mv.zero, List.length_nil] at hr
  obtain ⟨q0, q1, q2, q3⟩ := hr
  have f0 := HX5.out.res.f 0; have f1 := HX5.out.res.f 1; have f2 := HX5.out.res.f 2; have f3 := HX5.out.res.f 3
  go_wp2_with fail
  clear k0 k1 k2 k3 q0 q1 q2 q3 f0 f1 f2 f3
  change bodyPost _ _ _ _ _ (setMv w5 (w.heap.size + 1) ⟨id, y.n, y.no, y.nc, y.cs, y.mo, y.mc, y.e, y.eo, y.ec⟩)
  have SF := HX5.out.res.put ⟨id, y.n, y.no, y.nc, y.cs, y.mo, y.mc, y.e, y.eo, y.ec⟩
  have BF := HX5.out.below.trans (below_setMv (B := w.heap.size) (w := w5) (Nat.le_succ _) ⟨id, y.n, y.no, y.nc, y.cs, y.mo, y.mc, y.e, y.eo, y.ec⟩)
  have hown : OwnMe w5 (w.heap.size + 2) ⟨id, y.n, y.no, y.nc, y.cs, y.mo, y.mc, y.e, y.eo, y.ec⟩ := ⟨OY5.out.n, OY5.out.m, OY5.out.e⟩
  have HOW := Lib.hid (hown.other HX5.out.res (grown_setMv w5 (w.heap.size + 1) ⟨id, y.n, y.no, y.nc, y.cs, y.mo, y.mc, y.e, y.eo, y.ec⟩))
  generalize setMv w5 (w.heap.size + 1) ⟨id, y.n, y.no, y.nc, y.cs, y.mo, y.mc, y.e, y.eo, y.ec⟩ = wz at SF BF HOW ⊢
  obtain ⟨e0, e1, e2, e3⟩ := SF.all
  dsimp only at e0 e1 e2 e3
  refine bodyPost_ret (v := .tuple #[mvVal ⟨id, y.n, y.no, y.nc, y.cs, y.mo, y.mc, y.e, y.eo, y.ec⟩, .int .i64 0]) (by simp [mvVal, results, Tryz.results20, go_sem, e0, e1, e2, e3]) rfl ⟨⟨id, y.n, y.no, y.nc, y.cs, y.mo, y.mc, y.e, y.eo, y.ec⟩, ?_, rfl, HOW.out.more (by omega), BF⟩
  rw [← hy]
  rfl
set_option maxRecDepth 100000 in
set_option maxHeartbeats 4000000 in
set_option linter.unusedSimpArgs false in
theorem swithId_any (v : Mv) (id : Int) (w : World) (hr : RdMe w v) : Calls Tryz.prog 21 #[mvVal v, .int .i64 id] w (GivesMe2 w (withId v.me id).1 (withId v.me id).2) := by
  have HX0 := Lib.hid (CpSt.start hr)
  have HRD := Lib.hid hr
  have HC := Lib.hid (fun W hW => sIsMedl_any v W hW)
  clear hr
  rcases hm : isMedl v.me with _ | _
  · rw [show withId v.me id = (Me.zero, 1) from by unfold withId; rw [if_pos hm]]
    rw [hm] at HC
    clear hm
    unfold mvVal at HC ⊢
    go_enter Tryz.func21, Tryz.ntmps21
    go_upto_region 1 with fail
    generalize (w.alloc (.cells #[.int .i64 v.id, .slice v.no v.n.length v.nc, .slice v.mo v.cs.length v.mc, .slice v.eo v.e.length v.ec] 28)).alloc (.cells #[.int .i64 0, .slice none 0 0, .slice none 0 0, .slice none 0 0] 28) = w0 at HX0 ⊢
    obtain ⟨q0, q1, q2, q3⟩ := HX0.out.box.all
    go_wp2_with fail
    refine (HC.out _ HX0.out.rd).mono ?_
    rintro e w1 ⟨rfl, b1⟩
    have HX1 := Lib.hid (HX0.out.call b1)
    clear q0 q1 q2 q3 HX0 b1
    have hr := HX1.out.res.all
    dsimp only [Mv.zero, List.length_nil] at hr
    obtain ⟨q0, q1, q2, q3⟩ := hr
    have f0 := HX1.out.res.f 0; have f1 := HX1.out.res.f 1; have f2 := HX1.out.res.f 2; have f3 := HX1.out.res.f 3
    go_wp2_with fail
    clear q0 q1 q2 q3 f0 f1 f2 f3
    change bodyPost _ _ _ _ _ (setMv _ (w.heap.size + 1) Mv.zero)
    have SF := HX1.out.res.put Mv.zero
    have BF := fun (W : World) => (below_setMv (B := w.heap.size) (w := W) (b := w.heap.size + 1) (Nat.le_succ _) Mv.zero)
    obtain ⟨e0, e1, e2, e3⟩ := SF.all
    dsimp only [Mv.zero, List.length_nil] at e0 e1 e2 e3
    exact bodyPost_ret (v := .tuple #[mvVal Mv.zero, .int .i64 1]) (by simp [mvVal, Mv.zero, results, Tryz.results21, go_sem, e0, e1, e2, e3]) rfl ⟨Mv.zero, rfl, rfl, OwnMe.zero, HX1.out.below.trans (BF _)⟩
  by_cases hi : inRange 1 16777215 id = true
  rotate_left
  · have hi : inRange 1 16777215 id = false := by simpa using hi
    rw [show withId v.me id = (Me.zero, 2) from by unfold withId; rw [if_neg (by rw [hm]; simp), if_pos hi]]
    rw [hm] at HC
    have HI := Lib.hid (fun W => l01In_any id 1 16777215 W)
    rw [hi] at HI
    clear hm hi
    unfold mvVal at HC ⊢
    go_enter Tryz.func21, Tryz.ntmps21
    go_upto_region 1 with fail
    generalize (w.alloc (.cells #[.int .i64 v.id, .slice v.no v.n.length v.nc, .slice v.mo v.cs.length v.mc, .slice v.eo v.e.length v.ec] 28)).alloc (.cells #[.int .i64 0, .slice none 0 0, .slice none 0 0, .slice none 0 0] 28) = w0 at HX0 ⊢
    obtain ⟨q0, q1, q2, q3⟩ := HX0.out.box.all
    go_wp2_with fail
    refine (HC.out _ HX0.out.rd).mono ?_
    rintro e w01 ⟨rfl, b1⟩
    have HX01 := Lib.hid (HX0.out.call b1)
    clear q0 q1 q2 q3 HX0 b1
    go_wp2_with fail
    refine (HI.out _).mono ?_
    rintro e w02 ⟨rfl, rfl⟩
    have HX1 := HX01
    clear HX01
    have hr := HX1.out.res.all
    dsimp only [Mv.zero, List.length_nil] at hr
    obtain ⟨q0, q1, q2, q3⟩ := hr
    have f0 := HX1.out.res.f 0; have f1 := HX1.out.res.f 1; have f2 := HX1.out.res.f 2; have f3 := HX1.out.res.f 3
    go_wp2_with fail
    clear q0 q1 q2 q3 f0 f1 f2 f3
    change bodyPost _ _ _ _ _ (setMv _ (w.heap.size + 1) Mv.zero)
    have SF := HX1.out.res.put Mv.zero
    have BF := fun (W : World) => (below_setMv (B := w.heap.size) (w := W) (b := w.heap.size + 1) (Nat.le_succ _) Mv.zero)
    obtain ⟨e0, e1, e2, e3⟩ := SF.all
    dsimp only [Mv.zero, List.length_nil] at e0 e1 e2 e3
    exact bodyPost_ret (v := .tuple #[mvVal Mv.zero, .int .i64 2]) (by simp [mvVal, Mv.zero, results, Tryz.results21, go_sem, e0, e1, e2, e3]) rfl ⟨Mv.zero, rfl, rfl, OwnMe.zero, HX1.out.below.trans (BF _)⟩
  rw [show withId v.me id = (⟨id, v.me.nodes, v.me.modes, v.me.slots⟩, 0) from by unfold withId; rw [if_neg (by rw [hm]; simp), if_neg (by rw [hi]; simp)]]
  rw [hm] at HC
  have HI := Lib.hid (fun W => l01In_any id 1 16777215 W)
  rw [hi] at HI
  have HCP := Lib.hid (fun W hW => sCopyMe_any v W hW)
  clear hm hi
  unfold mvVal at HC HCP ⊢
  go_enter Tryz.func21, Tryz.ntmps21
  go_upto_region 1 with fail
  generalize (w.alloc (.cells #[.int .i64 v.id, .slice v.no v.n.length v.nc, .slice v.mo v.cs.length v.mc, .slice v.eo v.e.length v.ec] 28)).alloc (.cells #[.int .i64 0, .slice none 0 0, .slice none 0 0, .slice none 0 0] 28) = w0 at HX0 ⊢
  obtain ⟨q0, q1, q2, q3⟩ := HX0.out.box.all
  go_wp2_with fail
  refine (HC.out _ HX0.out.rd).mono ?_
  rintro e w01 ⟨rfl, b1⟩
  have HX01 := Lib.hid (HX0.out.call b1)
  clear q0 q1 q2 q3 HX0 b1
  go_wp2_with fail
  refine (HI.out _).mono ?_
  rintro e w02 ⟨rfl, rfl⟩
  have HX1 := HX01
  clear HX01
  obtain ⟨q0, q1, q2, q3⟩ := HX1.out.box.all
  go_wp2_with fail
  refine (HCP.out _ HX1.out.rd).mono ?_
  rintro e w3 ⟨y, hy, rfl, oy, b3⟩
  have HX3 := Lib.hid (HX1.out.call b3)
  replace oy := oy.more (base' := w.heap.size + 2) HX1.out.lt2
  clear q0 q1 q2 q3 HX1 b3
  unfold mvVal
  have bal := (Below.refl w3.heap.size w3).alloc (Nat.le_refl _) (.cells #[.int .i64 y.id, .slice y.no y.n.length y.nc, .slice y.mo y.cs.length y.mc, .slice y.eo y.e.length y.ec] 28)
  have ZK := MvAt.new (T := 28) (v := y) w3
  have HX4 := Lib.hid (HX3.out.call bal)
  have OY4 := Lib.hid (oy.below bal)
  have lo := HX3.out.lt2
  obtain ⟨K, hK⟩ : ∃ K, K = w3.heap.size := ⟨_, rfl⟩
  rw [← hK] at ZK lo
  clear bal oy HX3
  go_upto_region 6 with fail
  rw [← hK]
  clear hK
  generalize w3.alloc (.cells #[.int .i64 y.id, .slice y.no y.n.length y.nc, .slice y.mo y.cs.length y.mc, .slice y.eo y.e.length y.ec] 28) = w4 at ZK HX4 OY4 ⊢
  have k0 := ZK.in_.c0
  have kf := ZK.f 0
  go_upto_region 7 with fail
  have gs := grown_set w4 K 0 (.int .i64 id)
  have HX5 := Lib.hid (HX4.out.high HRD.out ((Below.refl _ _).setCell (p := ⟨K, 0, none⟩) (show w.heap.size + 2 ≤ (⟨K, 0, none⟩ : Addr).block from lo) (.int .i64 id)))
  have OY5 := Lib.hid (OY4.out.other ZK gs)
  have ZK5 := ZK.set0 id
  clear k0 kf gs HX4 OY4
  generalize w4.setCell ⟨K, 0, none⟩ (.int .i64 id) = w5 at HX5 OY5 ZK5 ⊢
  obtain ⟨k0, k1, k2, k3⟩ := ZK5.all
  have hr := HX5.out.res.all
  dsimp only [Mv.zero, List.length_nil] at hr
  obtain ⟨q0, q1, q2, q3⟩ := hr
  have f0 := HX5.out.res.f 0; have f1 := HX5.out.res.f 1; have f2 := HX5.out.res.f 2; have f3 := HX5.out.res.f 3
  go_wp2_with fail
  clear k0 k1 k2 k3 q0 q1 q2 q3 f0 f1 f2 f3
  change bodyPost _ _ _ _ _ (setMv w5 (w.heap.size + 1) ⟨id, y.n, y.no, y.nc, y.cs, y.mo, y.mc, y.e, y.eo, y.ec⟩)
  have SF := HX5.out.res.put ⟨id, y.n, y.no, y.nc, y.cs, y.mo, y.mc, y.e, y.eo, y.ec⟩
  have BF := HX5.out.below.trans (below_setMv (B := w.heap.size) (w := w5) (Nat.le_succ _) ⟨id, y.n, y.no, y.nc, y.cs, y.mo, y.mc, y.e, y.eo, y.ec⟩)
  have hown : OwnMe w5 (w.heap.size + 2) ⟨id, y.n, y.no, y.nc, y.cs, y.mo, y.mc, y.e, y.eo, y.ec⟩ := ⟨OY5.out.n, OY5.out.m, OY5.out.e⟩
  have HOW := Lib.hid (hown.other HX5.out.res (grown_setMv w5 (w.heap.size + 1) ⟨id, y.n, y.no, y.nc, y.cs, y.mo, y.mc, y.e, y.eo, y.ec⟩))
  generalize setMv w5 (w.heap.size + 1) ⟨id, y.n, y.no, y.nc, y.cs, y.mo, y.mc, y.e, y.eo, y.ec⟩ = wz at SF BF HOW ⊢
  obtain ⟨e0, e1, e2, e3⟩ := SF.all
  dsimp only at e0 e1 e2 e3
  refine bodyPost_ret (v := .tuple #[mvVal ⟨id, y.n, y.no, y.nc, y.cs, y.mo, y.mc, y.e, y.eo, y.ec⟩, .int .i64 0]) (by simp [mvVal, results, Tryz.results21, go_sem, e0, e1, e2, e3]) rfl ⟨⟨id, y.n, y.no, y.nc, y.cs, y.mo, y.mc, y.e, y.eo, y.ec⟩, ?_, rfl, HOW.out.more (by omega), BF⟩
  rw [← hy]
  rfl
end
end Go.Proofs.YtljdkckoelgkbaaGreat
