/-
  Chapter 3: spec.DrawIsMissed, DrawIsFound.
-/
import Derived.Test.YtfmbefmiglpijaaC3o
import Derived.Test.YtfmbefmiglpijaaC3j
import Derived.Deep.OwnRows
namespace Go.Proofs.Ytfmbefmiglpijaa
open Go.RowKit

/-- What a draw of a code and an error list leaves: a short list, or one of noughts alone. -/
def DrawnCE (E : Nat) (w : World) (e : Ending) (w' : World) : Prop :=
  ∃ (wd pl : Int) (v : Value) (xs : List Int), e = .returned (.tuple #[.agg #[.int .i64 wd, .int .i64 pl], v]) ∧ Own E w' w.heap.size v xs ∧ ((xs.length : Int) ≤ 62 ∨ xs.length ≤ 9000 ∧ ∀ x ∈ xs, x = 0) ∧ Below w.heap.size w w'
theorem make44 (w : World) : (Instr.makeSlice 26 (.int .i64 44) (.int .i64 44)).run Try.prog w = .ok (.slice (some ⟨w.heap.size, 0, none⟩) 44 44) (w.alloc (.cells (madeCells #[Value.int .i64 0] 44) 2)) :=
  run_make_row' 26 2 (.int .i64 0) 8 Try.underlying26 info64 rfl .i64 .i64 44 (by omega) (by omega) w
theorem rdMade (n : Nat) (w : World) : Rd (w.alloc (.cells (madeCells #[Value.int .i64 0] n) 2)) (some ⟨w.heap.size, 0, none⟩) n (List.replicate n 0) :=
  ⟨by simp, fun _ => ⟨w.heap.size, 0, rfl, fun i hi => by
    rw [World.cell?_alloc_at _ _ _ _ rfl]
    have e : (madeCells #[Value.int .i64 0] n) = Array.replicate n (Value.int .i64 0) := by
      apply Array.ext'
      rw [toList_madeCells_one]; simp
    rw [e]
    simp [hi, List.getD]⟩⟩
theorem rd44 (w : World) : Rd (w.alloc (.cells (madeCells #[Value.int .i64 0] 44) 2)) (some ⟨w.heap.size, 0, none⟩) 44 (List.replicate 44 0) := rdMade 44 w
/-- Ones within a span are strictly increasing indices of a longer list. -/
theorem first_rises {wd p sp : Int} {l : List Int} (h : firstOf wd p sp = (l, 0)) (hs : sp ≤ 44) : rises 44 l = true := by
  by_cases hc : spanCode wd p sp = 0
  · obtain ⟨hI, hr⟩ := spanCode_get hc
    obtain ⟨W, g, rfl, h1, h2, rfl, hg⟩ := isCrc_get hI
    obtain ⟨n, rfl⟩ := Int.eq_ofNat_of_zero_le (show 0 ≤ sp by omega)
    by_cases hf : firstMissed g n = []
    · rw [fo_4 hc hf] at h; simp at h
    · rw [fo_0 hc hf] at h
      have h : firstMissed g n = l := congrArg Prod.fst h
      rcases firstMissed_cases hg n with ⟨i, k, a1, a2, a3, -⟩ | ⟨-, i, k, j, a1, a2, a3, a4, -⟩ | ⟨-, -, a⟩
      · rw [← h, a3]
        refine rises_iff.2 fun m hm => ?_
        match m, hm with
        | 0, _ => exact ⟨by rw [prev_zero]; simp; omega, by simp; omega⟩
        | 1, _ => exact ⟨by rw [prev_succ]; simp; omega, by simp; omega⟩
      · rw [← h, a4]
        refine rises_iff.2 fun m hm => ?_
        match m, hm with
        | 0, _ => exact ⟨by rw [prev_zero]; simp; omega, by simp; omega⟩
        | 1, _ => exact ⟨by rw [prev_succ]; simp; omega, by simp; omega⟩
        | 2, _ => exact ⟨by rw [prev_succ]; simp; omega, by simp; omega⟩
      · exact absurd a hf
  · rw [fo_code hc] at h
    simp only [Prod.mk.injEq] at h
    exact absurd h.2 hc
theorem l01Flip_at (ao bo : Option Addr) (n m cap cap' : Nat) (xs ids : List Int) (w : World) (hr : Rd w ao n xs) (hr' : Rd w bo m ids) (hn : n ≤ 1048576) (hn' : m ≤ 1048576) (hbits : ∀ x ∈ xs, 0 ≤ x ∧ x ≤ 1) (hs : rises (n : Int) ids = true) :
    Calls Try.prog 73 #[.slice ao n cap, .slice bo m cap'] w (Makes 2 w (flips xs ids)) := by
  obtain rfl := hr.len
  obtain rfl := hr'.len
  exact l01Flip_any ao bo cap cap' xs ids w hr hr' hn hn' hbits hs
/-- At a step of a region: an append of a whole slice onto one of the call's own. -/
theorem step_append_list {P : Program} {E T : Nat} {w : World} {ops : Array Oper} {o : Oper} {a : Act} {K : Act → World → Prop} {Q : Exit → Act → World → Prop} {E' : Prop} (hgd : o.guard = none) (s x : Operand)
    (ho : o.op = .call { callee := .builtin .append, args := #[s, x], argTypes := #[T, T] })
    (base : Nat) (ht : P.underlying T = some (.slice E)) (hi : Info64 P E)
    (v : Value) (xs : List Int) (hs : a.eval s = v) (hown : Own E w base v xs) (b off : Nat) (ys : List Int) (m c : Nat) (hx : a.eval x = .slice (some ⟨b, off, none⟩) m c) (hr : Rd w (some ⟨b, off, none⟩) m ys) (hm : 0 < m)
    (hlen : xs.length + m ≤ 4294967296) (hbase : base ≤ w.heap.size)
    (h : ∀ v' w', Own E w' base v' (xs ++ ys) → Below base w w' → K (a.put o.dst v') w') : if Region.wanted o (yielded ops a.tmps) = true then Oper.wp P o a w K Q else E' := by
  obtain ⟨i0, hi, hz0, hz1, hz2⟩ := info_parts hi
  have hyl := hr.len
  refine step_append_lies w hgd s x T ho base E i0 (.int .i64 0) 1 8 ht hi hz0 hz1 hz2 rfl (by decide) v xs.length _ hs hown ⟨b, off, none⟩ m c (ys.map (Value.int .i64)) hx (by simp; exact hyl) ?_ ?_ hm (by unfold maxLen; omega) (by omega) hbase w.heap.size rfl ?_
  · intro j u hj
    obtain ⟨b', off', e, hc⟩ := hr.here hm
    cases e
    rw [List.getElem?_map] at hj
    rcases hg : ys[j]? with _ | y
    · rw [hg] at hj; cases hj
    · rw [hg] at hj
      have hjl : j < m := by rw [← hyl]; exact (List.getElem?_eq_some_iff.1 hg).1
      have h1 := hc j hjl
      rw [show ys.getD j 0 = y from by simp [List.getD, hg]] at h1
      rw [Addr.add_lit, h1]; exact hj
  · intro u hu
    obtain ⟨y, -, rfl⟩ := List.mem_map.1 hu
    rfl
  · intro g cap w' h1 h2 _ _
    refine h _ w' ?_ ((Below.refl _ _).grown h2 hbase fun k hk => (hown.block k hk).1)
    unfold Own
    simpa [hyl] using h1
theorem own_one {E base : Nat} {w : World} (hb : base ≤ w.heap.size) (a : Int) : Own E (w.alloc (.cells #[.int .i64 a] E)) base (.slice (some ⟨w.heap.size, 0, none⟩) 1 1) [a] :=
  ⟨rfl, .inr ⟨w.heap.size, 1, _, rfl, hb, heap_alloc_new w _, by simp, by unfold maxLen; omega, rfl, rfl⟩⟩

set_option maxHeartbeats 2000000 in
set_option maxRecDepth 100000 in
theorem drawIsMissed_any (ao : Option Addr) (n cap : Nat) (cs : List Int) (w : World) (hr : RdB w w.heap.size ao n cs) (hn : n ≤ 1048576) :
    Calls Try.prog 44 #[.slice ao n cap] w (DrawnCE 2 w) := by
  have hb0 : Below w.heap.size w (w.alloc (.cells #[.int .i64 0, .int .i64 0] 25)) := (Below.refl _ _).alloc (Nat.le_refl _) _
  have hR0 : StructAt 25 (w.alloc (.cells #[.int .i64 0, .int .i64 0] 25)) w.heap.size 0 0 := StructAt.new w
  have hr0 := rdB_grow hr hb0
  have hsz : (w.alloc (.cells #[.int .i64 0, .int .i64 0] 25)).heap.size = w.heap.size + 1 := by simp
  have HB := Lib.hid hb0; clear hb0
  have HR := Lib.hid hr0; clear hr0 hr
  have HR0 := Lib.hid hR0; clear hR0
  have HSZ := Lib.hid hsz; clear hsz
  go_enter Try.func44, Try.ntmps44
  go_wp2_with fail
  generalize w.alloc (.cells #[.int .i64 0, .int .i64 0] 25) = w0 at HB HR HR0 HSZ ⊢
  refine (from_any _ _ _ cs _ HR.out hn).mono ?_
  rintro e w1 ⟨p, rfl, hlo, hs1, hb1⟩
  have H : HeldS 2 94 w0 w1 p [] := HeldS.start hb1 hlo hs1
  clear hlo hs1 hb1
  go_wp2_with fail
  refine (draw_any _ _ H.src).mono ?_
  rintro e w2 ⟨wd, pl, rfl, hs2, g2⟩
  replace H := H.next hs2 g2
  clear hs2 g2
  have hba := fun ob => (Below.refl w2.heap.size w2).alloc (Nat.le_refl _) ob
  have HBA := Lib.hid hba; clear hba
  have hC : StructAt 25 (w2.alloc (.cells #[.int .i64 wd, .int .i64 pl] 25)) w2.heap.size wd pl := StructAt.new w2
  have HC := Lib.hid hC; clear hC
  have hpl := H.src.lt
  have hsz2 := H.below.size
  go_wp2_with fail
  refine (next_any _ _ _ (H.still (HBA.out _)).src (by omega)).mono ?_
  rintro e w3 ⟨y, rfl, -, -, -, hs3, g3⟩
  have C3 := Lib.hid (HC.out.grown g3 (by simp; omega))
  replace H := (H.still (HBA.out _)).next hs3 g3
  obtain ⟨C, hCC⟩ : ∃ C, C = w2.heap.size := ⟨_, rfl⟩
  have hCR : C ≠ w.heap.size := by have := HSZ.out; omega
  have hCp : some C ≠ some p := by simp; omega
  have hRlt : w.heap.size < w0.heap.size := by have := HSZ.out; omega
  rw [← hCC] at C3 ⊢
  have H3 := Lib.hid H
  clear HC hs3 g3 HBA hpl hsz2 hCC H
  by_cases h0 : y = 0
  · subst h0
    have hc0 := C3.out.c0
    have hc1 := C3.out.c1
    go_wp2_with fail
    clear hc0 hc1
    refine (sIsCrc_any _ _ _).mono ?_
    rintro e w4 ⟨rfl, b4⟩
    have H4 := Lib.hid (H3.out.still b4)
    have K4 := Lib.hid (C3.out.below b4 C3.out.lt)
    clear b4
    rcases hI : isCrc wd pl with _ | _
    · have HI := Lib.hid hI; clear hI
      have hc0 := K4.out.c0
      have hc1 := K4.out.c1
      go_wp2_with fail
      clear hc0 hc1
      refine (sIsCrc_any _ _ _).mono ?_
      rintro e wa ⟨rfl, ba⟩
      have Ha := Lib.hid (H4.out.still ba)
      have Ka := Lib.hid (K4.out.below ba K4.out.lt)
      clear ba
      rcases hI2 : isCrc wd pl with _ | _
      · have HI2 := Lib.hid hI2; clear hI2
        have HD := Lib.hid (Ha.out.still (Below.refl wa.heap.size wa).drew)
        have D3 := Lib.hid (show StructAt 25 wa.drew C wd pl from Ka.out)
        go_wp2
        go_region_held3 (fun w' => w'.cell? ⟨C, 0, none⟩ = some (.int .i64 wd) ∧ w'.cell? ⟨C, 1, none⟩ = some (.int .i64 pl))
          (first | exact ⟨D3.out.c0, D3.out.c1⟩ | exact ⟨D5.out.c0, D5.out.c1⟩ | exact ⟨(D5x _ _).c0, (D5x _ _).c1⟩)
          (first
            | (go_at_call 69; (with_reducible refine (l03Draw_any p _ HD.out.src).mono ?_); rintro e w5 ⟨v, xs, rfl, o5, hxl, hs5, g5⟩; have D5 := Lib.hid (D3.out.grown g5 hCp); have H5 := Lib.hid (HD.out.draw o5 hs5 g5); have HXL := Lib.hid hxl; clear o5 hs5 g5 hxl; have R5 := Lib.hid (HR0.out.below H5.out.below HR0.out.lt); have hr0 := R5.out.c0; have hr1 := R5.out.c1; have hq0 := R5.out.f0 0; have hq1 := R5.out.f0 1; have D5x := (fun (a b : Int) => (show StructAt 25 ((w5.setCell ⟨w.heap.size, 0, none⟩ (.int .i64 a)).setCell ⟨w.heap.size, 1, none⟩ (.int .i64 b)) C wd pl from (heap_setCell_other _ _ _ _ (by simp; omega)).trans ((heap_setCell_other _ _ _ _ (by simp; omega)).trans D5.out)))))
        go_wp2
        have h6 : Below w.heap.size w5 ((w5.setCell ⟨w.heap.size, 0, none⟩ (.int .i64 wd)).setCell ⟨w.heap.size, 1, none⟩ (.int .i64 pl)) := ((Below.refl _ _).setCell (by simp) _).setCell (by simp) _
        have hR6 := (R5.out.set0 wd).set1 pl
        have hd0 := hR6.c0
        have hd1 := hR6.c1
        clear D5x hr0 hr1 hq0 hq1 hR6
        have hO := own_far (a := .int .i64 wd) (b := .int .i64 pl) (H5.out.get 0 rfl) hRlt
        exact bodyPost_ret (v := .tuple #[.agg #[.int .i64 wd, .int .i64 pl], v]) (by simp [results, Try.results44, go_sem, hd0, hd1]) rfl ⟨_, _, _, _, rfl, hO.more (Nat.le_of_lt hRlt), HXL.out, (below_two HB.out H5.out.below).trans h6⟩
      · have HI2 := Lib.hid hI2; clear hI2
        go_wp2_with fail
        refine (next_any _ _ _ Ha.out.src (by omega)).mono ?_
        rintro e wb ⟨z, rfl, -, -, -, hsb, gb⟩
        have Kb := Lib.hid (Ka.out.grown gb hCp)
        have Hb := Lib.hid (Ha.out.next hsb gb)
        clear hsb gb
        by_cases hz : z = 0
        · subst hz
          obtain ⟨W, g, rfl, h1, h2, rfl, -⟩ := isCrc_get HI2.out
          have HD := Lib.hid (show HeldS 2 94 w0 ((wb.alloc (.cells #[.int .i64 1] 2)).drew) p [] from (Hb.out.still ((Below.refl _ _).alloc (Nat.le_refl _) _)).still (Below.refl _ _).drew)
          have HDd := Lib.hid (show HeldS 2 94 w0 wb.drew p [] from Hb.out.still (Below.refl _ _).drew)
          have D3 := Lib.hid (show StructAt 25 wb.drew C W g.toNat from Kb.out)
          have D4 := Lib.hid (show StructAt 25 ((wb.alloc (.cells #[.int .i64 1] 2)).drew) C W g.toNat from Kb.out.below ((Below.refl wb.heap.size wb).alloc (Nat.le_refl _) (.cells #[.int .i64 1] 2)).drew Kb.out.lt)
          have O1 := Lib.hid (show Own 2 ((wb.alloc (.cells #[.int .i64 1] 2)).drew) wb.heap.size (.slice (some ⟨wb.heap.size, 0, none⟩) 1 1) [1] from own_one (Nat.le_refl _) 1)
          have hw6 : wb.heap.size ≤ ((wb.alloc (.cells #[.int .i64 1] 2)).drew).heap.size := (((Below.refl wb.heap.size wb).alloc (Nat.le_refl _) (.cells #[.int .i64 1] 2)).drew).size
          have hla : ([1] : List Int).length + W ≤ 4294967296 := by simp; omega
          have hW40 : W ≤ 40 := by omega
          have hW0 : 0 < W := by omega
          have hyl := bitsOf_len (g.toNat : Int) W
          go_wp2
          go_region_held3 (fun w' => w'.cell? ⟨C, 0, none⟩ = some (.int .i64 W) ∧ w'.cell? ⟨C, 1, none⟩ = some (.int .i64 g.toNat))
            (first | exact ⟨D3.out.c0, D3.out.c1⟩ | exact ⟨D4.out.c0, D4.out.c1⟩ | exact ⟨D6.out.c0, D6.out.c1⟩ | exact ⟨D7.out.c0, D7.out.c1⟩ | exact ⟨D5.out.c0, D5.out.c1⟩ | exact ⟨(D5x _ _).c0, (D5x _ _).c1⟩)
            (first
              | (go_at_call 53; (with_reducible refine (l01Append_any none 0 0 [] (g.toNat : Int) W wb.drew Rd.nil_ (Nat.zero_le _) hW40).mono ?_); rintro e w6 m6; rw [List.nil_append] at m6; obtain ⟨p6, c6, rfl, o6, r6, b6⟩ := m6.get; rw [hyl] at r6 ⊢; obtain ⟨b, off, rfl, -⟩ := r6.here hW0; have D6 := Lib.hid (D3.out.below b6 D3.out.lt); have H6 := Lib.hid (HDd.out.still b6); have R7 := Lib.hid (r6.below ((Below.refl w6.heap.size w6).alloc (Nat.le_refl _) (.cells #[.int .i64 1] 2))); have D7 := Lib.hid (show StructAt 25 (w6.alloc (.cells #[.int .i64 1] 2)) C W g.toNat from D6.out.below ((Below.refl w6.heap.size w6).alloc (Nat.le_refl _) (.cells #[.int .i64 1] 2)) D6.out.lt); have O7 := Lib.hid (show Own 2 (w6.alloc (.cells #[.int .i64 1] 2)) w6.heap.size (.slice (some ⟨w6.heap.size, 0, none⟩) 1 1) [1] from own_one (Nat.le_refl _) 1); have B7 := Lib.hid ((Below.refl w6.heap.size w6).alloc (Nat.le_refl _) (.cells #[.int .i64 1] 2)); clear o6 b6 r6 m6)
              | (go_at_call 53; (with_reducible refine (l01Append_any none 0 0 [] (g.toNat : Int) W ((wb.alloc (.cells #[.int .i64 1] 2)).drew) Rd.nil_ (Nat.zero_le _) hW40).mono ?_); rintro e w6 m6; rw [List.nil_append] at m6; obtain ⟨p6, c6, rfl, o6, r6, b6⟩ := m6.get; rw [hyl] at r6 ⊢; obtain ⟨b, off, rfl, -⟩ := r6.here hW0; have D6 := Lib.hid (D4.out.below b6 D4.out.lt); have H6 := Lib.hid (HD.out.still b6); have R6 := Lib.hid r6; have O6 := Lib.hid (O1.out.below b6); have B6 := Lib.hid (show Below wb.heap.size wb w6 from (((Below.refl wb.heap.size wb).alloc (Nat.le_refl _) (.cells #[.int .i64 1] 2)).drew).trans (b6.mono hw6)); clear o6 b6 r6 m6)
              | (refine step_append_list (by rfl) (.tmp 41) (.tmp 46) (by rfl) w6.heap.size Try.underlying26 info64 _ [1] (by rfl) O7.out _ _ _ _ _ (by rfl) R7.out hW0 hla B7.out.size ?_; intro v5 w5 o5 b5; have H5 := Lib.hid ((H6.out.below.alloc H6.out.below.size (.cells #[.int .i64 1] 2)).trans (b5.mono H6.out.below.size)); have D5 := Lib.hid (D7.out.below b5 D6.out.lt); have O5 := Lib.hid (o5.more H6.out.below.size); clear o5 b5; have R5 := Lib.hid (HR0.out.below H5.out HR0.out.lt); have hr0 := R5.out.c0; have hr1 := R5.out.c1; have hq0 := R5.out.f0 0; have hq1 := R5.out.f0 1; have D5x := (fun (a b : Int) => (show StructAt 25 ((w5.setCell ⟨w.heap.size, 0, none⟩ (.int .i64 a)).setCell ⟨w.heap.size, 1, none⟩ (.int .i64 b)) C W g.toNat from (heap_setCell_other _ _ _ _ (by simp; omega)).trans ((heap_setCell_other _ _ _ _ (by simp; omega)).trans D5.out))))
              | (refine step_append_list (by rfl) (.tmp 41) (.tmp 46) (by rfl) wb.heap.size Try.underlying26 info64 _ [1] (by rfl) O6.out _ _ _ _ _ (by rfl) R6.out hW0 hla B6.out.size ?_; intro v5 w5 o5 b5; have H5 := Lib.hid (H6.out.below.trans (b5.mono Hb.out.below.size)); have D5 := Lib.hid (D6.out.below b5 Kb.out.lt); have O5 := Lib.hid (o5.more Hb.out.below.size); clear o5 b5; have R5 := Lib.hid (HR0.out.below H5.out HR0.out.lt); have hr0 := R5.out.c0; have hr1 := R5.out.c1; have hq0 := R5.out.f0 0; have hq1 := R5.out.f0 1; have D5x := (fun (a b : Int) => (show StructAt 25 ((w5.setCell ⟨w.heap.size, 0, none⟩ (.int .i64 a)).setCell ⟨w.heap.size, 1, none⟩ (.int .i64 b)) C W g.toNat from (heap_setCell_other _ _ _ _ (by simp; omega)).trans ((heap_setCell_other _ _ _ _ (by simp; omega)).trans D5.out)))))
          all_goals
            go_wp2
            have h6 : Below w.heap.size w5 ((w5.setCell ⟨w.heap.size, 0, none⟩ (.int .i64 W)).setCell ⟨w.heap.size, 1, none⟩ (.int .i64 g.toNat)) := ((Below.refl _ _).setCell (by simp) _).setCell (by simp) _
            have hR6 := (R5.out.set0 (W : Int)).set1 (g.toNat : Int)
            have hd0 := hR6.c0
            have hd1 := hR6.c1
            clear D5x hr0 hr1 hq0 hq1 hR6
            have hO := own_far (a := .int .i64 W) (b := .int .i64 g.toNat) O5.out hRlt
            exact bodyPost_ret (v := .tuple #[.agg #[.int .i64 W, .int .i64 g.toNat], v5]) (by simp [results, Try.results44, go_sem, hd0, hd1]) rfl ⟨_, _, _, _, rfl, hO.more (Nat.le_of_lt hRlt), .inl (by simp [hyl]; omega), (below_two HB.out H5.out).trans h6⟩
        · have tz : (z == 0) = false := by simp [hz]
          clear hz
          have HD := Lib.hid (Hb.out.still (Below.refl wb.heap.size wb).drew)
          have D3 := Lib.hid (show StructAt 25 wb.drew C wd pl from Kb.out)
          go_wp2
          go_region_held3 (fun w' => w'.cell? ⟨C, 0, none⟩ = some (.int .i64 wd) ∧ w'.cell? ⟨C, 1, none⟩ = some (.int .i64 pl))
            (first | exact ⟨D3.out.c0, D3.out.c1⟩ | exact ⟨D5.out.c0, D5.out.c1⟩ | exact ⟨(D5x _ _).c0, (D5x _ _).c1⟩)
            (first
              | (go_at_call 69; (with_reducible refine (l03Draw_any p _ HD.out.src).mono ?_); rintro e w5 ⟨v, xs, rfl, o5, hxl, hs5, g5⟩; have D5 := Lib.hid (D3.out.grown g5 hCp); have H5 := Lib.hid (HD.out.draw o5 hs5 g5); have HXL := Lib.hid hxl; clear o5 hs5 g5 hxl; have R5 := Lib.hid (HR0.out.below H5.out.below HR0.out.lt); have hr0 := R5.out.c0; have hr1 := R5.out.c1; have hq0 := R5.out.f0 0; have hq1 := R5.out.f0 1; have D5x := (fun (a b : Int) => (show StructAt 25 ((w5.setCell ⟨w.heap.size, 0, none⟩ (.int .i64 a)).setCell ⟨w.heap.size, 1, none⟩ (.int .i64 b)) C wd pl from (heap_setCell_other _ _ _ _ (by simp; omega)).trans ((heap_setCell_other _ _ _ _ (by simp; omega)).trans D5.out)))))
          go_wp2
          have h6 : Below w.heap.size w5 ((w5.setCell ⟨w.heap.size, 0, none⟩ (.int .i64 wd)).setCell ⟨w.heap.size, 1, none⟩ (.int .i64 pl)) := ((Below.refl _ _).setCell (by simp) _).setCell (by simp) _
          have hR6 := (R5.out.set0 wd).set1 pl
          have hd0 := hR6.c0
          have hd1 := hR6.c1
          clear D5x hr0 hr1 hq0 hq1 hR6
          have hO := own_far (a := .int .i64 wd) (b := .int .i64 pl) (H5.out.get 0 rfl) hRlt
          exact bodyPost_ret (v := .tuple #[.agg #[.int .i64 wd, .int .i64 pl], v]) (by simp [results, Try.results44, go_sem, hd0, hd1]) rfl ⟨_, _, _, _, rfl, hO.more (Nat.le_of_lt hRlt), HXL.out, (below_two HB.out H5.out.below).trans h6⟩
    · have HI := Lib.hid hI; clear hI
      have HD := Lib.hid (H4.out.still (Below.refl w4.heap.size w4).drew)
      have D3 := Lib.hid (show StructAt 25 w4.drew C wd pl from K4.out)
      have h20 : (20 : Int) ≤ 9223372036854775807 := by omega
      go_wp2
      go_region_held3 (fun w' => w'.cell? ⟨C, 0, none⟩ = some (.int .i64 wd) ∧ w'.cell? ⟨C, 1, none⟩ = some (.int .i64 pl))
        (first | exact ⟨D3.out.c0, D3.out.c1⟩ | exact ⟨D5.out.c0, D5.out.c1⟩ | exact ⟨D6.out.c0, D6.out.c1⟩)
        (first
          | (go_at_call 72; (with_reducible refine (next_any p 20 _ HD.out.src h20).mono ?_); rintro e w5 ⟨x, rfl, hx0, hx1, -, hs5, g5⟩; have hx2 : x < 20 := hx1 (by omega); have hxw := wrapK_small (20 + x) (by omega); have D5 := Lib.hid (D3.out.grown g5 hCp); have H5 := Lib.hid (HD.out.next hs5 g5); clear hs5 g5 hx1)
          | (go_at_call 22; (with_reducible refine (sFirstMissed_any wd pl (20 + x) _).mono ?_); rintro e w6 m6; obtain ⟨l, c, hFO⟩ : ∃ l c, firstOf wd pl (20 + x) = (l, c) := ⟨_, _, rfl⟩; rw [hFO] at m6; change Makes2 2 _ l c _ _ at m6; obtain ⟨p6, c6, rfl, o6, -, b6⟩ := m6.get; have HFO := Lib.hid hFO; have H6 := Lib.hid (H5.out.make o6 b6); have D6 := Lib.hid (D5.out.below b6 D5.out.lt); clear hFO o6 b6 m6))
      have hlen : l.length ≤ 3 := by have h := firstOf_len wd pl (20 + x); rw [HFO.out] at h; exact h
      by_cases hc : c = 0
      · subst hc
        have hri : rises ((44 : Nat) : Int) l = true := first_rises HFO.out (by omega)
        have HRI := Lib.hid hri; clear hri
        have hmk := make44
        have HD2 := Lib.hid (show HeldS 2 94 w0 ((w6.alloc (.cells (madeCells #[Value.int .i64 0] 44) 2)).drew) p _ from (H6.out.still ((Below.refl _ _).alloc (Nat.le_refl _) _)).still (Below.refl _ _).drew)
        have E3 := Lib.hid (show StructAt 25 w6.drew C wd pl from D6.out)
        have E4 := Lib.hid (show StructAt 25 ((w6.alloc (.cells (madeCells #[Value.int .i64 0] 44) 2)).drew) C wd pl from D6.out.below ((Below.refl w6.heap.size w6).alloc (Nat.le_refl _) (.cells (madeCells #[Value.int .i64 0] 44) 2)).drew D6.out.lt)
        have RZ := Lib.hid (show Rd ((w6.alloc (.cells (madeCells #[Value.int .i64 0] 44) 2)).drew) (some ⟨w6.heap.size, 0, none⟩) 44 (List.replicate 44 0) from (rd44 w6).below (Below.refl _ _).drew)
        have h44 : 44 ≤ 1048576 := by omega
        have hl4 : l.length ≤ 1048576 := by omega
        go_wp2
        go_region_held3 (fun w' => w'.cell? ⟨C, 0, none⟩ = some (.int .i64 wd) ∧ w'.cell? ⟨C, 1, none⟩ = some (.int .i64 pl))
          (first | exact ⟨E3.out.c0, E3.out.c1⟩ | exact ⟨E4.out.c0, E4.out.c1⟩ | exact ⟨D5.out.c0, D5.out.c1⟩ | exact ⟨(D5x _ _).c0, (D5x _ _).c1⟩)
          (first
            | (go_at_call 73; (with_reducible refine (l01Flip_at _ _ 44 l.length _ _ (List.replicate 44 0) l _ RZ.out (HD2.out.rd 0 rfl rfl) h44 hl4 (zeros_bits 44) HRI.out).mono ?_); rintro e w5 m5; obtain ⟨p5, c5, rfl, o5, -, b5⟩ := m5.get; clear D5 H5; have D5 := Lib.hid (E4.out.below b5 E4.out.lt); have H5 := Lib.hid (HD2.out.make o5 b5); clear o5 b5 m5; have R5 := Lib.hid (HR0.out.below H5.out.below HR0.out.lt); have hr0 := R5.out.c0; have hr1 := R5.out.c1; have hq0 := R5.out.f0 0; have hq1 := R5.out.f0 1; have D5x := (fun (a b : Int) => (show StructAt 25 ((w5.setCell ⟨w.heap.size, 0, none⟩ (.int .i64 a)).setCell ⟨w.heap.size, 1, none⟩ (.int .i64 b)) C wd pl from (heap_setCell_other _ _ _ _ (by simp; omega)).trans ((heap_setCell_other _ _ _ _ (by simp; omega)).trans D5.out)))))
        go_wp2
        have h6 : Below w.heap.size w5 ((w5.setCell ⟨w.heap.size, 0, none⟩ (.int .i64 wd)).setCell ⟨w.heap.size, 1, none⟩ (.int .i64 pl)) := ((Below.refl _ _).setCell (by simp) _).setCell (by simp) _
        have hR6 := (R5.out.set0 wd).set1 pl
        have hd0 := hR6.c0
        have hd1 := hR6.c1
        clear D5x hr0 hr1 hq0 hq1 hR6
        have hO := own_far (a := .int .i64 wd) (b := .int .i64 pl) (H5.out.get 0 rfl) hRlt
        exact bodyPost_ret (v := .tuple #[.agg #[.int .i64 wd, .int .i64 pl], (Value.slice p5 (flips (List.replicate 44 0) l).length c5)]) (by simp [results, Try.results44, go_sem, hd0, hd1]) rfl ⟨_, _, _, _, rfl, hO.more (Nat.le_of_lt hRlt), .inl (by rw [flips_len]; simp), (below_two HB.out H5.out.below).trans h6⟩
      · have tc : (c == 0) = false := by simp [hc]
        clear hc
        have H7 := Lib.hid (show HeldS 2 94 w0 w6 p [] from HeldS.start H6.out.below H6.out.lo H6.out.src)
        have hc0 := D6.out.c0
        have hc1 := D6.out.c1
        go_wp2_with fail
        clear hc0 hc1
        refine (sIsCrc_any _ _ _).mono ?_
        rintro e wa ⟨rfl, ba⟩
        have Ha := Lib.hid (H7.out.still ba)
        have Ka := Lib.hid (D6.out.below ba D6.out.lt)
        clear ba
        rcases hI2 : isCrc wd pl with _ | _
        · have HI2 := Lib.hid hI2; clear hI2
          have HD := Lib.hid (Ha.out.still (Below.refl wa.heap.size wa).drew)
          have D3 := Lib.hid (show StructAt 25 wa.drew C wd pl from Ka.out)
          go_wp2
          go_region_held3 (fun w' => w'.cell? ⟨C, 0, none⟩ = some (.int .i64 wd) ∧ w'.cell? ⟨C, 1, none⟩ = some (.int .i64 pl))
            (first | exact ⟨D3.out.c0, D3.out.c1⟩ | exact ⟨D5.out.c0, D5.out.c1⟩ | exact ⟨(D5x _ _).c0, (D5x _ _).c1⟩)
            (first
              | (go_at_call 69; (with_reducible refine (l03Draw_any p _ HD.out.src).mono ?_); rintro e w5 ⟨v, xs, rfl, o5, hxl, hs5, g5⟩; have D5 := Lib.hid (D3.out.grown g5 hCp); have H5 := Lib.hid (HD.out.draw o5 hs5 g5); have HXL := Lib.hid hxl; clear o5 hs5 g5 hxl; have R5 := Lib.hid (HR0.out.below H5.out.below HR0.out.lt); have hr0 := R5.out.c0; have hr1 := R5.out.c1; have hq0 := R5.out.f0 0; have hq1 := R5.out.f0 1; have D5x := (fun (a b : Int) => (show StructAt 25 ((w5.setCell ⟨w.heap.size, 0, none⟩ (.int .i64 a)).setCell ⟨w.heap.size, 1, none⟩ (.int .i64 b)) C wd pl from (heap_setCell_other _ _ _ _ (by simp; omega)).trans ((heap_setCell_other _ _ _ _ (by simp; omega)).trans D5.out)))))
          go_wp2
          have h6 : Below w.heap.size w5 ((w5.setCell ⟨w.heap.size, 0, none⟩ (.int .i64 wd)).setCell ⟨w.heap.size, 1, none⟩ (.int .i64 pl)) := ((Below.refl _ _).setCell (by simp) _).setCell (by simp) _
          have hR6 := (R5.out.set0 wd).set1 pl
          have hd0 := hR6.c0
          have hd1 := hR6.c1
          clear D5x hr0 hr1 hq0 hq1 hR6
          have hO := own_far (a := .int .i64 wd) (b := .int .i64 pl) (H5.out.get 0 rfl) hRlt
          exact bodyPost_ret (v := .tuple #[.agg #[.int .i64 wd, .int .i64 pl], v]) (by simp [results, Try.results44, go_sem, hd0, hd1]) rfl ⟨_, _, _, _, rfl, hO.more (Nat.le_of_lt hRlt), HXL.out, (below_two HB.out H5.out.below).trans h6⟩
        · have HI2 := Lib.hid hI2; clear hI2
          go_wp2_with fail
          refine (next_any _ _ _ Ha.out.src (by omega)).mono ?_
          rintro e wb ⟨z, rfl, -, -, -, hsb, gb⟩
          have Kb := Lib.hid (Ka.out.grown gb hCp)
          have Hb := Lib.hid (Ha.out.next hsb gb)
          clear hsb gb
          by_cases hz : z = 0
          · subst hz
            obtain ⟨W, g, rfl, h1, h2, rfl, -⟩ := isCrc_get HI2.out
            have HD := Lib.hid (show HeldS 2 94 w0 ((wb.alloc (.cells #[.int .i64 1] 2)).drew) p [] from (Hb.out.still ((Below.refl _ _).alloc (Nat.le_refl _) _)).still (Below.refl _ _).drew)
            have HDd := Lib.hid (show HeldS 2 94 w0 wb.drew p [] from Hb.out.still (Below.refl _ _).drew)
            have D3 := Lib.hid (show StructAt 25 wb.drew C W g.toNat from Kb.out)
            have D4 := Lib.hid (show StructAt 25 ((wb.alloc (.cells #[.int .i64 1] 2)).drew) C W g.toNat from Kb.out.below ((Below.refl wb.heap.size wb).alloc (Nat.le_refl _) (.cells #[.int .i64 1] 2)).drew Kb.out.lt)
            have O1 := Lib.hid (show Own 2 ((wb.alloc (.cells #[.int .i64 1] 2)).drew) wb.heap.size (.slice (some ⟨wb.heap.size, 0, none⟩) 1 1) [1] from own_one (Nat.le_refl _) 1)
            have hw6 : wb.heap.size ≤ ((wb.alloc (.cells #[.int .i64 1] 2)).drew).heap.size := (((Below.refl wb.heap.size wb).alloc (Nat.le_refl _) (.cells #[.int .i64 1] 2)).drew).size
            have hla : ([1] : List Int).length + W ≤ 4294967296 := by simp; omega
            have hW40 : W ≤ 40 := by omega
            have hW0 : 0 < W := by omega
            have hyl := bitsOf_len (g.toNat : Int) W
            go_wp2
            go_region_held3 (fun w' => w'.cell? ⟨C, 0, none⟩ = some (.int .i64 W) ∧ w'.cell? ⟨C, 1, none⟩ = some (.int .i64 g.toNat))
              (first | exact ⟨D3.out.c0, D3.out.c1⟩ | exact ⟨D4.out.c0, D4.out.c1⟩ | exact ⟨D6.out.c0, D6.out.c1⟩ | exact ⟨D7.out.c0, D7.out.c1⟩ | exact ⟨D5.out.c0, D5.out.c1⟩ | exact ⟨(D5x _ _).c0, (D5x _ _).c1⟩)
              (first
                | (go_at_call 53; (with_reducible refine (l01Append_any none 0 0 [] (g.toNat : Int) W wb.drew Rd.nil_ (Nat.zero_le _) hW40).mono ?_); rintro e w6 m6; rw [List.nil_append] at m6; obtain ⟨p6, c6, rfl, o6, r6, b6⟩ := m6.get; rw [hyl] at r6 ⊢; obtain ⟨b, off, rfl, -⟩ := r6.here hW0; have D6 := Lib.hid (D3.out.below b6 D3.out.lt); have H6 := Lib.hid (HDd.out.still b6); have R7 := Lib.hid (r6.below ((Below.refl w6.heap.size w6).alloc (Nat.le_refl _) (.cells #[.int .i64 1] 2))); have D7 := Lib.hid (show StructAt 25 (w6.alloc (.cells #[.int .i64 1] 2)) C W g.toNat from D6.out.below ((Below.refl w6.heap.size w6).alloc (Nat.le_refl _) (.cells #[.int .i64 1] 2)) D6.out.lt); have O7 := Lib.hid (show Own 2 (w6.alloc (.cells #[.int .i64 1] 2)) w6.heap.size (.slice (some ⟨w6.heap.size, 0, none⟩) 1 1) [1] from own_one (Nat.le_refl _) 1); have B7 := Lib.hid ((Below.refl w6.heap.size w6).alloc (Nat.le_refl _) (.cells #[.int .i64 1] 2)); clear o6 b6 r6 m6)
                | (go_at_call 53; (with_reducible refine (l01Append_any none 0 0 [] (g.toNat : Int) W ((wb.alloc (.cells #[.int .i64 1] 2)).drew) Rd.nil_ (Nat.zero_le _) hW40).mono ?_); rintro e w6 m6; rw [List.nil_append] at m6; obtain ⟨p6, c6, rfl, o6, r6, b6⟩ := m6.get; rw [hyl] at r6 ⊢; obtain ⟨b, off, rfl, -⟩ := r6.here hW0; have D6 := Lib.hid (D4.out.below b6 D4.out.lt); have H6 := Lib.hid (HD.out.still b6); have R6 := Lib.hid r6; have O6 := Lib.hid (O1.out.below b6); have B6 := Lib.hid (show Below wb.heap.size wb w6 from (((Below.refl wb.heap.size wb).alloc (Nat.le_refl _) (.cells #[.int .i64 1] 2)).drew).trans (b6.mono hw6)); clear o6 b6 r6 m6)
                | (refine step_append_list (by rfl) (.tmp 41) (.tmp 46) (by rfl) w6.heap.size Try.underlying26 info64 _ [1] (by rfl) O7.out _ _ _ _ _ (by rfl) R7.out hW0 hla B7.out.size ?_; intro v5 w5 o5 b5; have H5 := Lib.hid ((H6.out.below.alloc H6.out.below.size (.cells #[.int .i64 1] 2)).trans (b5.mono H6.out.below.size)); have D5 := Lib.hid (D7.out.below b5 D6.out.lt); have O5 := Lib.hid (o5.more H6.out.below.size); clear o5 b5; have R5 := Lib.hid (HR0.out.below H5.out HR0.out.lt); have hr0 := R5.out.c0; have hr1 := R5.out.c1; have hq0 := R5.out.f0 0; have hq1 := R5.out.f0 1; have D5x := (fun (a b : Int) => (show StructAt 25 ((w5.setCell ⟨w.heap.size, 0, none⟩ (.int .i64 a)).setCell ⟨w.heap.size, 1, none⟩ (.int .i64 b)) C W g.toNat from (heap_setCell_other _ _ _ _ (by simp; omega)).trans ((heap_setCell_other _ _ _ _ (by simp; omega)).trans D5.out))))
                | (refine step_append_list (by rfl) (.tmp 41) (.tmp 46) (by rfl) wb.heap.size Try.underlying26 info64 _ [1] (by rfl) O6.out _ _ _ _ _ (by rfl) R6.out hW0 hla B6.out.size ?_; intro v5 w5 o5 b5; have H5 := Lib.hid (H6.out.below.trans (b5.mono Hb.out.below.size)); have D5 := Lib.hid (D6.out.below b5 Kb.out.lt); have O5 := Lib.hid (o5.more Hb.out.below.size); clear o5 b5; have R5 := Lib.hid (HR0.out.below H5.out HR0.out.lt); have hr0 := R5.out.c0; have hr1 := R5.out.c1; have hq0 := R5.out.f0 0; have hq1 := R5.out.f0 1; have D5x := (fun (a b : Int) => (show StructAt 25 ((w5.setCell ⟨w.heap.size, 0, none⟩ (.int .i64 a)).setCell ⟨w.heap.size, 1, none⟩ (.int .i64 b)) C W g.toNat from (heap_setCell_other _ _ _ _ (by simp; omega)).trans ((heap_setCell_other _ _ _ _ (by simp; omega)).trans D5.out)))))
            all_goals
              go_wp2
              have h6 : Below w.heap.size w5 ((w5.setCell ⟨w.heap.size, 0, none⟩ (.int .i64 W)).setCell ⟨w.heap.size, 1, none⟩ (.int .i64 g.toNat)) := ((Below.refl _ _).setCell (by simp) _).setCell (by simp) _
              have hR6 := (R5.out.set0 (W : Int)).set1 (g.toNat : Int)
              have hd0 := hR6.c0
              have hd1 := hR6.c1
              clear D5x hr0 hr1 hq0 hq1 hR6
              have hO := own_far (a := .int .i64 W) (b := .int .i64 g.toNat) O5.out hRlt
              exact bodyPost_ret (v := .tuple #[.agg #[.int .i64 W, .int .i64 g.toNat], v5]) (by simp [results, Try.results44, go_sem, hd0, hd1]) rfl ⟨_, _, _, _, rfl, hO.more (Nat.le_of_lt hRlt), .inl (by simp [hyl]; omega), (below_two HB.out H5.out).trans h6⟩
          · have tz : (z == 0) = false := by simp [hz]
            clear hz
            have HD := Lib.hid (Hb.out.still (Below.refl wb.heap.size wb).drew)
            have D3 := Lib.hid (show StructAt 25 wb.drew C wd pl from Kb.out)
            go_wp2
            go_region_held3 (fun w' => w'.cell? ⟨C, 0, none⟩ = some (.int .i64 wd) ∧ w'.cell? ⟨C, 1, none⟩ = some (.int .i64 pl))
              (first | exact ⟨D3.out.c0, D3.out.c1⟩ | exact ⟨D5.out.c0, D5.out.c1⟩ | exact ⟨(D5x _ _).c0, (D5x _ _).c1⟩)
              (first
                | (go_at_call 69; (with_reducible refine (l03Draw_any p _ HD.out.src).mono ?_); rintro e w5 ⟨v, xs, rfl, o5, hxl, hs5, g5⟩; have D5 := Lib.hid (D3.out.grown g5 hCp); have H5 := Lib.hid (HD.out.draw o5 hs5 g5); have HXL := Lib.hid hxl; clear o5 hs5 g5 hxl; have R5 := Lib.hid (HR0.out.below H5.out.below HR0.out.lt); have hr0 := R5.out.c0; have hr1 := R5.out.c1; have hq0 := R5.out.f0 0; have hq1 := R5.out.f0 1; have D5x := (fun (a b : Int) => (show StructAt 25 ((w5.setCell ⟨w.heap.size, 0, none⟩ (.int .i64 a)).setCell ⟨w.heap.size, 1, none⟩ (.int .i64 b)) C wd pl from (heap_setCell_other _ _ _ _ (by simp; omega)).trans ((heap_setCell_other _ _ _ _ (by simp; omega)).trans D5.out)))))
            go_wp2
            have h6 : Below w.heap.size w5 ((w5.setCell ⟨w.heap.size, 0, none⟩ (.int .i64 wd)).setCell ⟨w.heap.size, 1, none⟩ (.int .i64 pl)) := ((Below.refl _ _).setCell (by simp) _).setCell (by simp) _
            have hR6 := (R5.out.set0 wd).set1 pl
            have hd0 := hR6.c0
            have hd1 := hR6.c1
            clear D5x hr0 hr1 hq0 hq1 hR6
            have hO := own_far (a := .int .i64 wd) (b := .int .i64 pl) (H5.out.get 0 rfl) hRlt
            exact bodyPost_ret (v := .tuple #[.agg #[.int .i64 wd, .int .i64 pl], v]) (by simp [results, Try.results44, go_sem, hd0, hd1]) rfl ⟨_, _, _, _, rfl, hO.more (Nat.le_of_lt hRlt), HXL.out, (below_two HB.out H5.out.below).trans h6⟩
  · have t0 : (y == 0) = false := by simp [h0]
    clear h0
    have hc0 := C3.out.c0
    have hc1 := C3.out.c1
    go_wp2_with fail
    clear hc0 hc1
    refine (sIsCrc_any _ _ _).mono ?_
    rintro e wa ⟨rfl, ba⟩
    have Ha := Lib.hid (H3.out.still ba)
    have Ka := Lib.hid (C3.out.below ba C3.out.lt)
    clear ba
    rcases hI2 : isCrc wd pl with _ | _
    · have HI2 := Lib.hid hI2; clear hI2
      have HD := Lib.hid (Ha.out.still (Below.refl wa.heap.size wa).drew)
      have D3 := Lib.hid (show StructAt 25 wa.drew C wd pl from Ka.out)
      go_wp2
      go_region_held3 (fun w' => w'.cell? ⟨C, 0, none⟩ = some (.int .i64 wd) ∧ w'.cell? ⟨C, 1, none⟩ = some (.int .i64 pl))
        (first | exact ⟨D3.out.c0, D3.out.c1⟩ | exact ⟨D5.out.c0, D5.out.c1⟩ | exact ⟨(D5x _ _).c0, (D5x _ _).c1⟩)
        (first
          | (go_at_call 69; (with_reducible refine (l03Draw_any p _ HD.out.src).mono ?_); rintro e w5 ⟨v, xs, rfl, o5, hxl, hs5, g5⟩; have D5 := Lib.hid (D3.out.grown g5 hCp); have H5 := Lib.hid (HD.out.draw o5 hs5 g5); have HXL := Lib.hid hxl; clear o5 hs5 g5 hxl; have R5 := Lib.hid (HR0.out.below H5.out.below HR0.out.lt); have hr0 := R5.out.c0; have hr1 := R5.out.c1; have hq0 := R5.out.f0 0; have hq1 := R5.out.f0 1; have D5x := (fun (a b : Int) => (show StructAt 25 ((w5.setCell ⟨w.heap.size, 0, none⟩ (.int .i64 a)).setCell ⟨w.heap.size, 1, none⟩ (.int .i64 b)) C wd pl from (heap_setCell_other _ _ _ _ (by simp; omega)).trans ((heap_setCell_other _ _ _ _ (by simp; omega)).trans D5.out)))))
      go_wp2
      have h6 : Below w.heap.size w5 ((w5.setCell ⟨w.heap.size, 0, none⟩ (.int .i64 wd)).setCell ⟨w.heap.size, 1, none⟩ (.int .i64 pl)) := ((Below.refl _ _).setCell (by simp) _).setCell (by simp) _
      have hR6 := (R5.out.set0 wd).set1 pl
      have hd0 := hR6.c0
      have hd1 := hR6.c1
      clear D5x hr0 hr1 hq0 hq1 hR6
      have hO := own_far (a := .int .i64 wd) (b := .int .i64 pl) (H5.out.get 0 rfl) hRlt
      exact bodyPost_ret (v := .tuple #[.agg #[.int .i64 wd, .int .i64 pl], v]) (by simp [results, Try.results44, go_sem, hd0, hd1]) rfl ⟨_, _, _, _, rfl, hO.more (Nat.le_of_lt hRlt), HXL.out, (below_two HB.out H5.out.below).trans h6⟩
    · have HI2 := Lib.hid hI2; clear hI2
      go_wp2_with fail
      refine (next_any _ _ _ Ha.out.src (by omega)).mono ?_
      rintro e wb ⟨z, rfl, -, -, -, hsb, gb⟩
      have Kb := Lib.hid (Ka.out.grown gb hCp)
      have Hb := Lib.hid (Ha.out.next hsb gb)
      clear hsb gb
      by_cases hz : z = 0
      · subst hz
        obtain ⟨W, g, rfl, h1, h2, rfl, -⟩ := isCrc_get HI2.out
        have HD := Lib.hid (show HeldS 2 94 w0 ((wb.alloc (.cells #[.int .i64 1] 2)).drew) p [] from (Hb.out.still ((Below.refl _ _).alloc (Nat.le_refl _) _)).still (Below.refl _ _).drew)
        have HDd := Lib.hid (show HeldS 2 94 w0 wb.drew p [] from Hb.out.still (Below.refl _ _).drew)
        have D3 := Lib.hid (show StructAt 25 wb.drew C W g.toNat from Kb.out)
        have D4 := Lib.hid (show StructAt 25 ((wb.alloc (.cells #[.int .i64 1] 2)).drew) C W g.toNat from Kb.out.below ((Below.refl wb.heap.size wb).alloc (Nat.le_refl _) (.cells #[.int .i64 1] 2)).drew Kb.out.lt)
        have O1 := Lib.hid (show Own 2 ((wb.alloc (.cells #[.int .i64 1] 2)).drew) wb.heap.size (.slice (some ⟨wb.heap.size, 0, none⟩) 1 1) [1] from own_one (Nat.le_refl _) 1)
        have hw6 : wb.heap.size ≤ ((wb.alloc (.cells #[.int .i64 1] 2)).drew).heap.size := (((Below.refl wb.heap.size wb).alloc (Nat.le_refl _) (.cells #[.int .i64 1] 2)).drew).size
        have hla : ([1] : List Int).length + W ≤ 4294967296 := by simp; omega
        have hW40 : W ≤ 40 := by omega
        have hW0 : 0 < W := by omega
        have hyl := bitsOf_len (g.toNat : Int) W
        go_wp2
        go_region_held3 (fun w' => w'.cell? ⟨C, 0, none⟩ = some (.int .i64 W) ∧ w'.cell? ⟨C, 1, none⟩ = some (.int .i64 g.toNat))
          (first | exact ⟨D3.out.c0, D3.out.c1⟩ | exact ⟨D4.out.c0, D4.out.c1⟩ | exact ⟨D6.out.c0, D6.out.c1⟩ | exact ⟨D7.out.c0, D7.out.c1⟩ | exact ⟨D5.out.c0, D5.out.c1⟩ | exact ⟨(D5x _ _).c0, (D5x _ _).c1⟩)
          (first
            | (go_at_call 53; (with_reducible refine (l01Append_any none 0 0 [] (g.toNat : Int) W wb.drew Rd.nil_ (Nat.zero_le _) hW40).mono ?_); rintro e w6 m6; rw [List.nil_append] at m6; obtain ⟨p6, c6, rfl, o6, r6, b6⟩ := m6.get; rw [hyl] at r6 ⊢; obtain ⟨b, off, rfl, -⟩ := r6.here hW0; have D6 := Lib.hid (D3.out.below b6 D3.out.lt); have H6 := Lib.hid (HDd.out.still b6); have R7 := Lib.hid (r6.below ((Below.refl w6.heap.size w6).alloc (Nat.le_refl _) (.cells #[.int .i64 1] 2))); have D7 := Lib.hid (show StructAt 25 (w6.alloc (.cells #[.int .i64 1] 2)) C W g.toNat from D6.out.below ((Below.refl w6.heap.size w6).alloc (Nat.le_refl _) (.cells #[.int .i64 1] 2)) D6.out.lt); have O7 := Lib.hid (show Own 2 (w6.alloc (.cells #[.int .i64 1] 2)) w6.heap.size (.slice (some ⟨w6.heap.size, 0, none⟩) 1 1) [1] from own_one (Nat.le_refl _) 1); have B7 := Lib.hid ((Below.refl w6.heap.size w6).alloc (Nat.le_refl _) (.cells #[.int .i64 1] 2)); clear o6 b6 r6 m6)
            | (go_at_call 53; (with_reducible refine (l01Append_any none 0 0 [] (g.toNat : Int) W ((wb.alloc (.cells #[.int .i64 1] 2)).drew) Rd.nil_ (Nat.zero_le _) hW40).mono ?_); rintro e w6 m6; rw [List.nil_append] at m6; obtain ⟨p6, c6, rfl, o6, r6, b6⟩ := m6.get; rw [hyl] at r6 ⊢; obtain ⟨b, off, rfl, -⟩ := r6.here hW0; have D6 := Lib.hid (D4.out.below b6 D4.out.lt); have H6 := Lib.hid (HD.out.still b6); have R6 := Lib.hid r6; have O6 := Lib.hid (O1.out.below b6); have B6 := Lib.hid (show Below wb.heap.size wb w6 from (((Below.refl wb.heap.size wb).alloc (Nat.le_refl _) (.cells #[.int .i64 1] 2)).drew).trans (b6.mono hw6)); clear o6 b6 r6 m6)
            | (refine step_append_list (by rfl) (.tmp 41) (.tmp 46) (by rfl) w6.heap.size Try.underlying26 info64 _ [1] (by rfl) O7.out _ _ _ _ _ (by rfl) R7.out hW0 hla B7.out.size ?_; intro v5 w5 o5 b5; have H5 := Lib.hid ((H6.out.below.alloc H6.out.below.size (.cells #[.int .i64 1] 2)).trans (b5.mono H6.out.below.size)); have D5 := Lib.hid (D7.out.below b5 D6.out.lt); have O5 := Lib.hid (o5.more H6.out.below.size); clear o5 b5; have R5 := Lib.hid (HR0.out.below H5.out HR0.out.lt); have hr0 := R5.out.c0; have hr1 := R5.out.c1; have hq0 := R5.out.f0 0; have hq1 := R5.out.f0 1; have D5x := (fun (a b : Int) => (show StructAt 25 ((w5.setCell ⟨w.heap.size, 0, none⟩ (.int .i64 a)).setCell ⟨w.heap.size, 1, none⟩ (.int .i64 b)) C W g.toNat from (heap_setCell_other _ _ _ _ (by simp; omega)).trans ((heap_setCell_other _ _ _ _ (by simp; omega)).trans D5.out))))
            | (refine step_append_list (by rfl) (.tmp 41) (.tmp 46) (by rfl) wb.heap.size Try.underlying26 info64 _ [1] (by rfl) O6.out _ _ _ _ _ (by rfl) R6.out hW0 hla B6.out.size ?_; intro v5 w5 o5 b5; have H5 := Lib.hid (H6.out.below.trans (b5.mono Hb.out.below.size)); have D5 := Lib.hid (D6.out.below b5 Kb.out.lt); have O5 := Lib.hid (o5.more Hb.out.below.size); clear o5 b5; have R5 := Lib.hid (HR0.out.below H5.out HR0.out.lt); have hr0 := R5.out.c0; have hr1 := R5.out.c1; have hq0 := R5.out.f0 0; have hq1 := R5.out.f0 1; have D5x := (fun (a b : Int) => (show StructAt 25 ((w5.setCell ⟨w.heap.size, 0, none⟩ (.int .i64 a)).setCell ⟨w.heap.size, 1, none⟩ (.int .i64 b)) C W g.toNat from (heap_setCell_other _ _ _ _ (by simp; omega)).trans ((heap_setCell_other _ _ _ _ (by simp; omega)).trans D5.out)))))
        all_goals
          go_wp2
          have h6 : Below w.heap.size w5 ((w5.setCell ⟨w.heap.size, 0, none⟩ (.int .i64 W)).setCell ⟨w.heap.size, 1, none⟩ (.int .i64 g.toNat)) := ((Below.refl _ _).setCell (by simp) _).setCell (by simp) _
          have hR6 := (R5.out.set0 (W : Int)).set1 (g.toNat : Int)
          have hd0 := hR6.c0
          have hd1 := hR6.c1
          clear D5x hr0 hr1 hq0 hq1 hR6
          have hO := own_far (a := .int .i64 W) (b := .int .i64 g.toNat) O5.out hRlt
          exact bodyPost_ret (v := .tuple #[.agg #[.int .i64 W, .int .i64 g.toNat], v5]) (by simp [results, Try.results44, go_sem, hd0, hd1]) rfl ⟨_, _, _, _, rfl, hO.more (Nat.le_of_lt hRlt), .inl (by simp [hyl]; omega), (below_two HB.out H5.out).trans h6⟩
      · have tz : (z == 0) = false := by simp [hz]
        clear hz
        have HD := Lib.hid (Hb.out.still (Below.refl wb.heap.size wb).drew)
        have D3 := Lib.hid (show StructAt 25 wb.drew C wd pl from Kb.out)
        go_wp2
        go_region_held3 (fun w' => w'.cell? ⟨C, 0, none⟩ = some (.int .i64 wd) ∧ w'.cell? ⟨C, 1, none⟩ = some (.int .i64 pl))
          (first | exact ⟨D3.out.c0, D3.out.c1⟩ | exact ⟨D5.out.c0, D5.out.c1⟩ | exact ⟨(D5x _ _).c0, (D5x _ _).c1⟩)
          (first
            | (go_at_call 69; (with_reducible refine (l03Draw_any p _ HD.out.src).mono ?_); rintro e w5 ⟨v, xs, rfl, o5, hxl, hs5, g5⟩; have D5 := Lib.hid (D3.out.grown g5 hCp); have H5 := Lib.hid (HD.out.draw o5 hs5 g5); have HXL := Lib.hid hxl; clear o5 hs5 g5 hxl; have R5 := Lib.hid (HR0.out.below H5.out.below HR0.out.lt); have hr0 := R5.out.c0; have hr1 := R5.out.c1; have hq0 := R5.out.f0 0; have hq1 := R5.out.f0 1; have D5x := (fun (a b : Int) => (show StructAt 25 ((w5.setCell ⟨w.heap.size, 0, none⟩ (.int .i64 a)).setCell ⟨w.heap.size, 1, none⟩ (.int .i64 b)) C wd pl from (heap_setCell_other _ _ _ _ (by simp; omega)).trans ((heap_setCell_other _ _ _ _ (by simp; omega)).trans D5.out)))))
        go_wp2
        have h6 : Below w.heap.size w5 ((w5.setCell ⟨w.heap.size, 0, none⟩ (.int .i64 wd)).setCell ⟨w.heap.size, 1, none⟩ (.int .i64 pl)) := ((Below.refl _ _).setCell (by simp) _).setCell (by simp) _
        have hR6 := (R5.out.set0 wd).set1 pl
        have hd0 := hR6.c0
        have hd1 := hR6.c1
        clear D5x hr0 hr1 hq0 hq1 hR6
        have hO := own_far (a := .int .i64 wd) (b := .int .i64 pl) (H5.out.get 0 rfl) hRlt
        exact bodyPost_ret (v := .tuple #[.agg #[.int .i64 wd, .int .i64 pl], v]) (by simp [results, Try.results44, go_sem, hd0, hd1]) rfl ⟨_, _, _, _, rfl, hO.more (Nat.le_of_lt hRlt), HXL.out, (below_two HB.out H5.out.below).trans h6⟩
end Go.Proofs.Ytfmbefmiglpijaa
