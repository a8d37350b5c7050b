/-
  Chapter 16: the model draws demands, rounds and slots.
-/
import Derived.Test.YtbbodgeoenjdkaaPlDL
import Derived.Test.YtbbodgeoenjdkaaDrawA
import Derived.Deep.Cut
import Derived.Handy
namespace Go.Proofs.Ytbbodgeoenjdkaa
open Go.RowKit

theorem six_ints {cs : Array Value} {a b c d e f : Int} (h : cs = #[.int .i64 a, .int .i64 b, .int .i64 c, .int .i64 d, .int .i64 e, .int .i64 f]) {z : Nat} (hz : z < 6) : ∃ v : Int, cs[z]? = some (.int .i64 v) := by
  subst h
  match z, hz with
  | 0, _ => exact ⟨_, rfl⟩
  | 1, _ => exact ⟨_, rfl⟩
  | 2, _ => exact ⟨_, rfl⟩
  | 3, _ => exact ⟨_, rfl⟩
  | 4, _ => exact ⟨_, rfl⟩
  | 5, _ => exact ⟨_, rfl⟩
theorem fiveI {cs : Array Value} {a b c d e : Int} (h : cs = #[.int .i64 a, .int .i64 b, .int .i64 c, .int .i64 d, .int .i64 e]) {z : Nat} (hz : z < 5) : ∃ v : Int, cs[z]? = some (.int .i64 v) := by
  subst h
  match z, hz with
  | 0, _ => exact ⟨_, rfl⟩
  | 1, _ => exact ⟨_, rfl⟩
  | 2, _ => exact ⟨_, rfl⟩
  | 3, _ => exact ⟨_, rfl⟩
  | 4, _ => exact ⟨_, rfl⟩
theorem fourI {cs : Array Value} {a b c d : Int} (h : cs = #[.int .i64 a, .int .i64 b, .int .i64 c, .int .i64 d]) {z : Nat} (hz : z < 4) : ∃ v : Int, cs[z]? = some (.int .i64 v) := by
  subst h
  match z, hz with
  | 0, _ => exact ⟨_, rfl⟩
  | 1, _ => exact ⟨_, rfl⟩
  | 2, _ => exact ⟨_, rfl⟩
  | 3, _ => exact ⟨_, rfl⟩
theorem threeI {cs : Array Value} {a b c : Int} (h : cs = #[.int .i64 a, .int .i64 b, .int .i64 c]) {z : Nat} (hz : z < 3) : ∃ v : Int, cs[z]? = some (.int .i64 v) := by
  subst h
  match z, hz with
  | 0, _ => exact ⟨_, rfl⟩
  | 1, _ => exact ⟨_, rfl⟩
  | 2, _ => exact ⟨_, rfl⟩
theorem twoI {cs : Array Value} {a b : Int} (h : cs = #[.int .i64 a, .int .i64 b]) {z : Nat} (hz : z < 2) : ∃ v : Int, cs[z]? = some (.int .i64 v) := by
  subst h
  match z, hz with
  | 0, _ => exact ⟨_, rfl⟩
  | 1, _ => exact ⟨_, rfl⟩
/-- A literal's block. -/
def LitD (E : Nat) (w : World) (b : Nat) (cs : Array Value) : Prop := w.heap[b]? = some (.cells cs E (0, 0))
section
variable {w w' : World} {E p b : Nat} {lits : Array Value}
theorem LitD.new (w : World) : LitD E (w.alloc (.cells lits E)) w.heap.size lits := heap_alloc_new w _
theorem LitD.lt (h : LitD E w b lits) : b < w.heap.size := (Array.getElem?_eq_some_iff.1 h).1
theorem LitD.below (h : LitD E w b lits) (hb : Below w.heap.size w w') : LitD E w' b lits := (hb.block b h.lt).trans h
theorem LitD.src (h : LitD E w b lits) (hg : w.grownBy w' (some p)) (hne : p < b) : LitD E w' b lits := (hg.block b h.lt (fun e => by cases e; omega)).trans h
theorem LitD.cell (h : LitD E w b lits) (z : Nat) : w.cell? ⟨b, z, none⟩ = lits[z]? := cell_of_row w b z _ _ (0, 0) h
end
/-- A draw of demands: of old memory only the source has been written. -/
def DrawnDm (w : World) (p : Nat) (e : Ending) (w' : World) : Prop :=
  ∃ v t, e = .returned v ∧ OwnDm 38 w' w.heap.size v t ∧ t.length ≤ 41 ∧ Src 101 w' p ∧ w.grownBy w' (some p)
/-- Among the steps of a draw. -/
structure DrD (w wr : World) (p : Nat) (V : Value) (t : List Dm) : Prop where
  own : OwnDm 38 wr w.heap.size V t
  src : Src 101 wr p
  grown : w.grownBy wr (some p)
theorem DrD.next {w wr w' : World} {p : Nat} {V : Value} {t : List Dm} (h : DrD w wr p V t) (hp : p < w.heap.size) (hs : Src 101 w' p) (g : wr.grownBy w' (some p)) : DrD w w' p V t :=
  ⟨h.own.old g hp, hs, grown_trans h.grown g⟩
theorem DrD.still {w wr w' : World} {p : Nat} {V : Value} {t : List Dm} (h : DrD w wr p V t) (hb : Below wr.heap.size wr w') : DrD w w' p V t :=
  ⟨h.own.below hb, h.src.below hb, grown_trans h.grown (grown_of_below hb)⟩
theorem DrD.turn {w wr w' : World} {p : Nat} {V v' : Value} {t u : List Dm} (h : DrD w wr p V t) (hp : p < w.heap.size) (o' : OwnDm 38 w' w.heap.size v' u) (b : Below w.heap.size wr w') : DrD w w' p v' u :=
  ⟨o', h.src.belowB b hp, grown_step h.grown b (Nat.le_refl _)⟩
def lenOfV : Value → Nat
  | .slice _ n _ => n
  | _ => 0
set_option maxHeartbeats 8000000 in
set_option maxRecDepth 100000 in
set_option linter.unusedSimpArgs false in
theorem l16Draw_any (p : Nat) (w : World) (hs : Src 101 w p) : Calls Try.prog 47 #[.pointer (some ⟨p, 0, none⟩)] w (DrawnDm w p) := by
  have hp := hs.lt
  have hb0 : Below w.heap.size w (w.alloc (.cells #[] 38)) := (Below.refl _ _).alloc (Nat.le_refl _) _
  have HL0 := Lib.hid (show DrD w (w.alloc (.cells #[] 38)) p (.slice (some ⟨w.heap.size, 0, none⟩) 0 0) [] from ⟨OwnDm.of_alloc_nil (Nat.le_refl _), hs.below hb0, grown_of_below hb0⟩)
  clear hb0 hs
  go_enter Try.func47, Try.ntmps47
  go_wp2_with fail
  refine (next_any _ _ _ HL0.out.src (by omega)).mono ?_
  rintro e w1 ⟨d, rfl, hd0, hd1, -, hs1, g1⟩
  have hd2 : d < 12 := hd1 (by omega)
  have HL1 := Lib.hid (HL0.out.next hp hs1 g1)
  obtain ⟨d, rfl⟩ := Int.eq_ofNat_of_zero_le hd0
  clear hd0 hd1 hs1 g1 HL0
  go_wp2_with fail
  go_loopw [3, 4] (fun V I wr => ∃ (m : Nat) (t : List Dm), I = .int .i64 (m : Int) ∧ t.length + m ≤ 12 ∧ Hid (DrD w wr p V t)) (fun _ I _ => (intOf I).toNat)
  case atStart => exact ⟨d, [], rfl, by simp; omega, HL1.out⟩
  case round =>
    clear HL1 hd2
    obtain ⟨m, t, rfl, hl, HD⟩ := hrel
    by_cases hm : 0 < m
    · have hm' : (0 : Int) < (m : Int) := by omega
      have hbd : Below wr.heap.size wr wr.drew := Below.drew (Below.refl _ _)
      have HD4 := Lib.hid (HD.out.still hbd)
      clear hbd
      go_upto_region 5 with fail
      refine wp_region_held_drew (S := fun w' => True) (by kernel_rfl) (trivial) (fun hHeld => ?_)
      generalize wr.drew = wd at HD4 ⊢
      clear HD
      refine wpAnyH_take (i := 0) (v := ?_) rfl (by kernel_rfl) (by kernel_rfl) (by kernel_rfl) (fun _ _ _ h => h) (Or.inl ⟨by rfl, ?_⟩) (by assumption) ?_
      rotate_left
      · (intro w hSw; (try dsimp only at hSw); go_simp; (try with_reducible rfl))
      try simp only [List.getElem_toArray, List.getElem_cons_succ, List.getElem_cons_zero, Act.put, List.setIfInBounds_toArray, List.set_cons_zero, List.set_cons_succ]
      refine wpAnyH_take (i := 1) (v := ?_) rfl (by kernel_rfl) (by kernel_rfl) (by kernel_rfl) (fun _ _ _ h => h) (Or.inl ⟨by rfl, ?_⟩) (by assumption) ?_
      rotate_left
      · (intro w hSw; (try dsimp only at hSw); go_simp; (try with_reducible rfl))
      try simp only [List.getElem_toArray, List.getElem_cons_succ, List.getElem_cons_zero, Act.put, List.setIfInBounds_toArray, List.set_cons_zero, List.set_cons_succ]
      refine wpAnyH_take (i := 4) (v := ?_) rfl (by kernel_rfl) (by kernel_rfl) (by kernel_rfl) (fun _ _ _ h => h) (Or.inl ⟨by rfl, ?_⟩) (by assumption) ?_
      rotate_left
      · (intro w hSw; (try dsimp only at hSw); go_simp; (try with_reducible rfl))
      try simp only [List.getElem_toArray, List.getElem_cons_succ, List.getElem_cons_zero, Act.put, List.setIfInBounds_toArray, List.set_cons_zero, List.set_cons_succ]
      refine wpAnyH_take (i := 8) (v := ?_) rfl (by kernel_rfl) (by kernel_rfl) (by kernel_rfl) (fun _ _ _ h => h) (Or.inl ⟨by rfl, ?_⟩) (by assumption) ?_
      rotate_left
      · (intro w hSw; (try dsimp only at hSw); go_simp; (try with_reducible rfl))
      try simp only [List.getElem_toArray, List.getElem_cons_succ, List.getElem_cons_zero, Act.put, List.setIfInBounds_toArray, List.set_cons_zero, List.set_cons_succ]
      refine wpAnyH_ready (rs := [2, 3]) (by kernel_rfl) (by simp) (AllReadyH.cons rfl (fun K hK => ?_) (AllReadyH.cons rfl (fun K hK => ?_) (AllReadyH.nil)))
      · skip
        go_simp
        refine (next_any _ _ _ HD4.out.src (by omega)).mono ?_
        rintro e wc5 ⟨z5, rfl, hz50, hz51, -, hs, gc⟩
        have hz52 : z5 < 5 := hz51 (by omega)
        have HD5 := Lib.hid (HD4.out.next hp hs gc)
        clear hz51 hs gc
        go_wp2_with fail
        refine hK.out _ _ ?_ (fun hHeld => ?_)
        · exact trivial
        clear hK K
        try simp only [List.getElem_toArray, List.getElem_cons_succ, List.getElem_cons_zero, Act.put, List.setIfInBounds_toArray, List.set_cons_zero, List.set_cons_succ]
        refine wpAnyH_ready (rs := [3, 5]) (by kernel_rfl) (by simp) (AllReadyH.cons rfl (fun K hK => ?_) (AllReadyH.cons rfl (fun K hK => ?_) (AllReadyH.nil)))
        · skip
          go_simp
          have hbl : Below wc5.heap.size wc5 (wc5.alloc (.cells #[.int .i64 1, .int .i64 2, .int .i64 4, .int .i64 8, .int .i64 2, .int .i64 4] 2)) := (Below.refl _ _).alloc (Nat.le_refl _) _
          have HD6 := Lib.hid (HD5.out.still hbl)
          have HL6 := Lib.hid (show LitD 2 (wc5.alloc (.cells #[.int .i64 1, .int .i64 2, .int .i64 4, .int .i64 8, .int .i64 2, .int .i64 4] 2)) wc5.heap.size #[.int .i64 1, .int .i64 2, .int .i64 4, .int .i64 8, .int .i64 2, .int .i64 4] from LitD.new _)
          have hpb : p < wc5.heap.size := HD5.out.src.lt
          clear hbl
          generalize hwb : wc5.heap.size = tb at HL6 hpb ⊢
          generalize wc5.alloc (.cells #[.int .i64 1, .int .i64 2, .int .i64 4, .int .i64 8, .int .i64 2, .int .i64 4] 2) = wa6 at HD6 HL6 ⊢
          clear hwb
          refine hK.out _ _ ?_ (fun hHeld => ?_)
          · exact trivial
          clear hK K
          try simp only [List.getElem_toArray, List.getElem_cons_succ, List.getElem_cons_zero, Act.put, List.setIfInBounds_toArray, List.set_cons_zero, List.set_cons_succ]
          refine wpAnyH_ready (rs := [5]) (by kernel_rfl) (by simp) (AllReadyH.cons rfl (fun K hK => ?_) (AllReadyH.nil))
          go_simp
          refine (next_any _ _ _ HD6.out.src (by omega)).mono ?_
          rintro e wc7 ⟨z6, rfl, hz60, hz61, -, hs, gc⟩
          have hz62 : z6 < 6 := hz61 (by omega)
          obtain ⟨z6, rfl⟩ := Int.eq_ofNat_of_zero_le hz60
          have hz63 : z6 < 6 := by omega
          have HD7 := Lib.hid (HD6.out.next hp hs gc)
          have HL7 := Lib.hid (HL6.out.src gc hpb)
          clear hz61 hs gc
          go_wp2_with fail
          refine hK.out _ _ ?_ (fun hHeld => ?_)
          · exact trivial
          clear hK K
          try simp only [List.getElem_toArray, List.getElem_cons_succ, List.getElem_cons_zero, Act.put, List.setIfInBounds_toArray, List.set_cons_zero, List.set_cons_succ]
          refine wpAnyH_take (i := 6) (v := ?_) rfl (by kernel_rfl) (by kernel_rfl) (by kernel_rfl) (fun _ _ _ h => h) (Or.inl ⟨by rfl, ?_⟩) (by assumption) ?_
          rotate_left
          · (intro w hSw; (try dsimp only at hSw); go_simp; (try with_reducible rfl))
          try simp only [List.getElem_toArray, List.getElem_cons_succ, List.getElem_cons_zero, Act.put, List.setIfInBounds_toArray, List.set_cons_zero, List.set_cons_succ]
          refine wpAnyH_ready (rs := [7, 9]) (by kernel_rfl) (by simp) (AllReadyH.cons rfl (fun K hK => ?_) (AllReadyH.cons rfl (fun K hK => ?_) (AllReadyH.nil)))
          · skip
            obtain ⟨u, hu⟩ := six_ints (cs := #[.int .i64 1, .int .i64 2, .int .i64 4, .int .i64 8, .int .i64 2, .int .i64 4]) rfl hz63
            have hcell := (HL7.out.cell z6).trans hu
            clear hu
            go_simp
            refine hK.out _ _ ?_ (fun hHeld => ?_)
            · exact trivial
            clear hK K
            try simp only [List.getElem_toArray, List.getElem_cons_succ, List.getElem_cons_zero, Act.put, List.setIfInBounds_toArray, List.set_cons_zero, List.set_cons_succ]
            clear hcell
            refine wpAnyH_ready (rs := [9]) (by kernel_rfl) (by simp) (AllReadyH.cons rfl (fun K hK => ?_) (AllReadyH.nil))
            go_simp
            refine (next_any _ _ _ HD7.out.src (by omega)).mono ?_
            rintro e wc8 ⟨z9, rfl, hz90, hz91, -, hs, gc⟩
            have hz92 : z9 < 9 := hz91 (by omega)
            have HD8 := Lib.hid (HD7.out.next hp hs gc)
            have HL8 := Lib.hid (HL7.out.src gc hpb)
            clear hz91 hs gc
            go_wp2_with fail
            refine hK.out _ _ ?_ (fun hHeld => ?_)
            · exact trivial
            clear hK K
            try simp only [List.getElem_toArray, List.getElem_cons_succ, List.getElem_cons_zero, Act.put, List.setIfInBounds_toArray, List.set_cons_zero, List.set_cons_succ]
            refine wpAnyH_take (i := 10) (v := ?_) rfl (by kernel_rfl) (by kernel_rfl) (by kernel_rfl) (fun _ _ _ h => h) (Or.inl ⟨by rfl, ?_⟩) (by assumption) ?_
            rotate_left
            · (intro w hSw; (try dsimp only at hSw); go_simp; (try with_reducible rfl))
            try simp only [List.getElem_toArray, List.getElem_cons_succ, List.getElem_cons_zero, Act.put, List.setIfInBounds_toArray, List.set_cons_zero, List.set_cons_succ]
            refine wpAnyH_take (i := 11) (v := ?_) rfl (by kernel_rfl) (by kernel_rfl) (by kernel_rfl) (fun _ _ _ h => h) (Or.inl ⟨by rfl, ?_⟩) (by assumption) ?_
            rotate_left
            · (intro w hSw; (try dsimp only at hSw); go_simp; (try with_reducible rfl))
            try simp only [List.getElem_toArray, List.getElem_cons_succ, List.getElem_cons_zero, Act.put, List.setIfInBounds_toArray, List.set_cons_zero, List.set_cons_succ]
            refine wpAnyH_ready (rs := [12]) (by kernel_rfl) (by simp) (AllReadyH.cons rfl (fun K hK => ?_) (AllReadyH.nil))
            go_simp
            have hbl : Below wc8.heap.size wc8 (wc8.alloc (.cells #[.int .i64 z5, .int .i64 u, .int .i64 (IntKind.i64.wrap (1 + z9))] 38)) := (Below.refl _ _).alloc (Nat.le_refl _) _
            have HD9 := Lib.hid (HD8.out.still hbl)
            have HX := Lib.hid (DmBk.new (T := 38) (x := ⟨z5, u, IntKind.i64.wrap (1 + z9)⟩) wc8)
            clear hbl
            generalize wc8.heap.size = ub at HX ⊢
            generalize wc8.alloc (.cells #[.int .i64 z5, .int .i64 u, .int .i64 (IntKind.i64.wrap (1 + z9))] 38) = wu at HD9 HX ⊢
            refine hK.out _ _ ?_ (fun hHeld => ?_)
            · exact trivial
            clear hK K
            try simp only [List.getElem_toArray, List.getElem_cons_succ, List.getElem_cons_zero, Act.put, List.setIfInBounds_toArray, List.set_cons_zero, List.set_cons_succ]
            refine wpAnyH_ready (rs := [13]) (by kernel_rfl) (by simp) (AllReadyH.cons rfl (fun K hK => ?_) (AllReadyH.nil))
            refine app_dm _ (.tmp 12) (.tmp 24) rfl w.heap.size Try.underlying24 info_dm _ t rfl HD9.out.own ub 0 ⟨z5, u, IntKind.i64.wrap (1 + z9)⟩ 1 rfl HX.out.in_ (by omega) HD9.out.grown.size ?_
            intro vn wn on gn
            have HDF := Lib.hid (HD9.out.turn hp on ((Below.refl _ _).grown gn HD9.out.grown.size (fun k hk => (HD9.out.own.block k hk).1)))
            clear on gn
            refine hK.out _ _ ?_ (fun hHeld => ?_)
            · exact trivial
            clear hK K
            try simp only [List.getElem_toArray, List.getElem_cons_succ, List.getElem_cons_zero, Act.put, List.setIfInBounds_toArray, List.set_cons_zero, List.set_cons_succ]
            refine wpAnyH_take (i := 14) (v := ?_) rfl (by kernel_rfl) (by kernel_rfl) (by kernel_rfl) (fun _ _ _ h => h) (Or.inl ⟨by rfl, ?_⟩) (by assumption) ?_
            rotate_left
            · (intro w hSw; (try dsimp only at hSw); go_simp; (try with_reducible rfl))
            try simp only [List.getElem_toArray, List.getElem_cons_succ, List.getElem_cons_zero, Act.put, List.setIfInBounds_toArray, List.set_cons_zero, List.set_cons_succ]
            refine wpAnyH_done (by kernel_rfl) ?_ _
            have HLL := Lib.hid (show (t ++ [(⟨z5, u, IntKind.i64.wrap (1 + z9)⟩ : Dm)]).length + (m - 1) ≤ 12 from by rw [List.length_append, List.length_singleton]; omega)
            go_wp2_with fail
            go_roundw
            case rel => exact ⟨m - 1, _, by go_num, HLL.out, HDF.out⟩
            case measure => simp [intOf]; omega
          · skip
            go_simp
            refine (next_any _ _ _ HD7.out.src (by omega)).mono ?_
            rintro e wc8 ⟨z9, rfl, hz90, hz91, -, hs, gc⟩
            have hz92 : z9 < 9 := hz91 (by omega)
            have HD8 := Lib.hid (HD7.out.next hp hs gc)
            have HL8 := Lib.hid (HL7.out.src gc hpb)
            clear hz91 hs gc
            go_wp2_with fail
            refine hK.out _ _ ?_ (fun hHeld => ?_)
            · exact trivial
            clear hK K
            try simp only [List.getElem_toArray, List.getElem_cons_succ, List.getElem_cons_zero, Act.put, List.setIfInBounds_toArray, List.set_cons_zero, List.set_cons_succ]
            refine wpAnyH_take (i := 10) (v := ?_) rfl (by kernel_rfl) (by kernel_rfl) (by kernel_rfl) (fun _ _ _ h => h) (Or.inl ⟨by rfl, ?_⟩) (by assumption) ?_
            rotate_left
            · (intro w hSw; (try dsimp only at hSw); go_simp; (try with_reducible rfl))
            try simp only [List.getElem_toArray, List.getElem_cons_succ, List.getElem_cons_zero, Act.put, List.setIfInBounds_toArray, List.set_cons_zero, List.set_cons_succ]
            refine wpAnyH_ready (rs := [7]) (by kernel_rfl) (by simp) (AllReadyH.cons rfl (fun K hK => ?_) (AllReadyH.nil))
            obtain ⟨u, hu⟩ := six_ints (cs := #[.int .i64 1, .int .i64 2, .int .i64 4, .int .i64 8, .int .i64 2, .int .i64 4]) rfl hz63
            have hcell := (HL8.out.cell z6).trans hu
            clear hu
            go_simp
            refine hK.out _ _ ?_ (fun hHeld => ?_)
            · exact trivial
            clear hK K
            try simp only [List.getElem_toArray, List.getElem_cons_succ, List.getElem_cons_zero, Act.put, List.setIfInBounds_toArray, List.set_cons_zero, List.set_cons_succ]
            clear hcell
            refine wpAnyH_take (i := 11) (v := ?_) rfl (by kernel_rfl) (by kernel_rfl) (by kernel_rfl) (fun _ _ _ h => h) (Or.inl ⟨by rfl, ?_⟩) (by assumption) ?_
            rotate_left
            · (intro w hSw; (try dsimp only at hSw); go_simp; (try with_reducible rfl))
            try simp only [List.getElem_toArray, List.getElem_cons_succ, List.getElem_cons_zero, Act.put, List.setIfInBounds_toArray, List.set_cons_zero, List.set_cons_succ]
            refine wpAnyH_ready (rs := [12]) (by kernel_rfl) (by simp) (AllReadyH.cons rfl (fun K hK => ?_) (AllReadyH.nil))
            go_simp
            have hbl : Below wc8.heap.size wc8 (wc8.alloc (.cells #[.int .i64 z5, .int .i64 u, .int .i64 (IntKind.i64.wrap (1 + z9))] 38)) := (Below.refl _ _).alloc (Nat.le_refl _) _
            have HD9 := Lib.hid (HD8.out.still hbl)
            have HX := Lib.hid (DmBk.new (T := 38) (x := ⟨z5, u, IntKind.i64.wrap (1 + z9)⟩) wc8)
            clear hbl
            generalize wc8.heap.size = ub at HX ⊢
            generalize wc8.alloc (.cells #[.int .i64 z5, .int .i64 u, .int .i64 (IntKind.i64.wrap (1 + z9))] 38) = wu at HD9 HX ⊢
            refine hK.out _ _ ?_ (fun hHeld => ?_)
            · exact trivial
            clear hK K
            try simp only [List.getElem_toArray, List.getElem_cons_succ, List.getElem_cons_zero, Act.put, List.setIfInBounds_toArray, List.set_cons_zero, List.set_cons_succ]
            refine wpAnyH_ready (rs := [13]) (by kernel_rfl) (by simp) (AllReadyH.cons rfl (fun K hK => ?_) (AllReadyH.nil))
            refine app_dm _ (.tmp 12) (.tmp 24) rfl w.heap.size Try.underlying24 info_dm _ t rfl HD9.out.own ub 0 ⟨z5, u, IntKind.i64.wrap (1 + z9)⟩ 1 rfl HX.out.in_ (by omega) HD9.out.grown.size ?_
            intro vn wn on gn
            have HDF := Lib.hid (HD9.out.turn hp on ((Below.refl _ _).grown gn HD9.out.grown.size (fun k hk => (HD9.out.own.block k hk).1)))
            clear on gn
            refine hK.out _ _ ?_ (fun hHeld => ?_)
            · exact trivial
            clear hK K
            try simp only [List.getElem_toArray, List.getElem_cons_succ, List.getElem_cons_zero, Act.put, List.setIfInBounds_toArray, List.set_cons_zero, List.set_cons_succ]
            refine wpAnyH_take (i := 14) (v := ?_) rfl (by kernel_rfl) (by kernel_rfl) (by kernel_rfl) (fun _ _ _ h => h) (Or.inl ⟨by rfl, ?_⟩) (by assumption) ?_
            rotate_left
            · (intro w hSw; (try dsimp only at hSw); go_simp; (try with_reducible rfl))
            try simp only [List.getElem_toArray, List.getElem_cons_succ, List.getElem_cons_zero, Act.put, List.setIfInBounds_toArray, List.set_cons_zero, List.set_cons_succ]
            refine wpAnyH_done (by kernel_rfl) ?_ _
            have HLL := Lib.hid (show (t ++ [(⟨z5, u, IntKind.i64.wrap (1 + z9)⟩ : Dm)]).length + (m - 1) ≤ 12 from by rw [List.length_append, List.length_singleton]; omega)
            go_wp2_with fail
            go_roundw
            case rel => exact ⟨m - 1, _, by go_num, HLL.out, HDF.out⟩
            case measure => simp [intOf]; omega
        · skip
          go_simp
          refine (next_any _ _ _ HD5.out.src (by omega)).mono ?_
          rintro e wc6 ⟨z6, rfl, hz60, hz61, -, hs, gc⟩
          have hz62 : z6 < 6 := hz61 (by omega)
          obtain ⟨z6, rfl⟩ := Int.eq_ofNat_of_zero_le hz60
          have hz63 : z6 < 6 := by omega
          have HD6 := Lib.hid (HD5.out.next hp hs gc)
          clear hz61 hs gc
          go_wp2_with fail
          refine hK.out _ _ ?_ (fun hHeld => ?_)
          · exact trivial
          clear hK K
          try simp only [List.getElem_toArray, List.getElem_cons_succ, List.getElem_cons_zero, Act.put, List.setIfInBounds_toArray, List.set_cons_zero, List.set_cons_succ]
          refine wpAnyH_ready (rs := [3, 9]) (by kernel_rfl) (by simp) (AllReadyH.cons rfl (fun K hK => ?_) (AllReadyH.cons rfl (fun K hK => ?_) (AllReadyH.nil)))
          · skip
            go_simp
            have hbl : Below wc6.heap.size wc6 (wc6.alloc (.cells #[.int .i64 1, .int .i64 2, .int .i64 4, .int .i64 8, .int .i64 2, .int .i64 4] 2)) := (Below.refl _ _).alloc (Nat.le_refl _) _
            have HD7 := Lib.hid (HD6.out.still hbl)
            have HL7 := Lib.hid (show LitD 2 (wc6.alloc (.cells #[.int .i64 1, .int .i64 2, .int .i64 4, .int .i64 8, .int .i64 2, .int .i64 4] 2)) wc6.heap.size #[.int .i64 1, .int .i64 2, .int .i64 4, .int .i64 8, .int .i64 2, .int .i64 4] from LitD.new _)
            have hpb : p < wc6.heap.size := HD6.out.src.lt
            clear hbl
            generalize hwb : wc6.heap.size = tb at HL7 hpb ⊢
            generalize wc6.alloc (.cells #[.int .i64 1, .int .i64 2, .int .i64 4, .int .i64 8, .int .i64 2, .int .i64 4] 2) = wa7 at HD7 HL7 ⊢
            clear hwb
            refine hK.out _ _ ?_ (fun hHeld => ?_)
            · exact trivial
            clear hK K
            try simp only [List.getElem_toArray, List.getElem_cons_succ, List.getElem_cons_zero, Act.put, List.setIfInBounds_toArray, List.set_cons_zero, List.set_cons_succ]
            refine wpAnyH_take (i := 6) (v := ?_) rfl (by kernel_rfl) (by kernel_rfl) (by kernel_rfl) (fun _ _ _ h => h) (Or.inl ⟨by rfl, ?_⟩) (by assumption) ?_
            rotate_left
            · (intro w hSw; (try dsimp only at hSw); go_simp; (try with_reducible rfl))
            try simp only [List.getElem_toArray, List.getElem_cons_succ, List.getElem_cons_zero, Act.put, List.setIfInBounds_toArray, List.set_cons_zero, List.set_cons_succ]
            refine wpAnyH_ready (rs := [7, 9]) (by kernel_rfl) (by simp) (AllReadyH.cons rfl (fun K hK => ?_) (AllReadyH.cons rfl (fun K hK => ?_) (AllReadyH.nil)))
            · skip
              obtain ⟨u, hu⟩ := six_ints (cs := #[.int .i64 1, .int .i64 2, .int .i64 4, .int .i64 8, .int .i64 2, .int .i64 4]) rfl hz63
              have hcell := (HL7.out.cell z6).trans hu
              clear hu
              go_simp
              refine hK.out _ _ ?_ (fun hHeld => ?_)
              · exact trivial
              clear hK K
              try simp only [List.getElem_toArray, List.getElem_cons_succ, List.getElem_cons_zero, Act.put, List.setIfInBounds_toArray, List.set_cons_zero, List.set_cons_succ]
              clear hcell
              refine wpAnyH_ready (rs := [9]) (by kernel_rfl) (by simp) (AllReadyH.cons rfl (fun K hK => ?_) (AllReadyH.nil))
              go_simp
              refine (next_any _ _ _ HD7.out.src (by omega)).mono ?_
              rintro e wc8 ⟨z9, rfl, hz90, hz91, -, hs, gc⟩
              have hz92 : z9 < 9 := hz91 (by omega)
              have HD8 := Lib.hid (HD7.out.next hp hs gc)
              have HL8 := Lib.hid (HL7.out.src gc hpb)
              clear hz91 hs gc
              go_wp2_with fail
              refine hK.out _ _ ?_ (fun hHeld => ?_)
              · exact trivial
              clear hK K
              try simp only [List.getElem_toArray, List.getElem_cons_succ, List.getElem_cons_zero, Act.put, List.setIfInBounds_toArray, List.set_cons_zero, List.set_cons_succ]
              refine wpAnyH_take (i := 10) (v := ?_) rfl (by kernel_rfl) (by kernel_rfl) (by kernel_rfl) (fun _ _ _ h => h) (Or.inl ⟨by rfl, ?_⟩) (by assumption) ?_
              rotate_left
              · (intro w hSw; (try dsimp only at hSw); go_simp; (try with_reducible rfl))
              try simp only [List.getElem_toArray, List.getElem_cons_succ, List.getElem_cons_zero, Act.put, List.setIfInBounds_toArray, List.set_cons_zero, List.set_cons_succ]
              refine wpAnyH_take (i := 11) (v := ?_) rfl (by kernel_rfl) (by kernel_rfl) (by kernel_rfl) (fun _ _ _ h => h) (Or.inl ⟨by rfl, ?_⟩) (by assumption) ?_
              rotate_left
              · (intro w hSw; (try dsimp only at hSw); go_simp; (try with_reducible rfl))
              try simp only [List.getElem_toArray, List.getElem_cons_succ, List.getElem_cons_zero, Act.put, List.setIfInBounds_toArray, List.set_cons_zero, List.set_cons_succ]
              refine wpAnyH_ready (rs := [12]) (by kernel_rfl) (by simp) (AllReadyH.cons rfl (fun K hK => ?_) (AllReadyH.nil))
              go_simp
              have hbl : Below wc8.heap.size wc8 (wc8.alloc (.cells #[.int .i64 z5, .int .i64 u, .int .i64 (IntKind.i64.wrap (1 + z9))] 38)) := (Below.refl _ _).alloc (Nat.le_refl _) _
              have HD9 := Lib.hid (HD8.out.still hbl)
              have HX := Lib.hid (DmBk.new (T := 38) (x := ⟨z5, u, IntKind.i64.wrap (1 + z9)⟩) wc8)
              clear hbl
              generalize wc8.heap.size = ub at HX ⊢
              generalize wc8.alloc (.cells #[.int .i64 z5, .int .i64 u, .int .i64 (IntKind.i64.wrap (1 + z9))] 38) = wu at HD9 HX ⊢
              refine hK.out _ _ ?_ (fun hHeld => ?_)
              · exact trivial
              clear hK K
              try simp only [List.getElem_toArray, List.getElem_cons_succ, List.getElem_cons_zero, Act.put, List.setIfInBounds_toArray, List.set_cons_zero, List.set_cons_succ]
              refine wpAnyH_ready (rs := [13]) (by kernel_rfl) (by simp) (AllReadyH.cons rfl (fun K hK => ?_) (AllReadyH.nil))
              refine app_dm _ (.tmp 12) (.tmp 24) rfl w.heap.size Try.underlying24 info_dm _ t rfl HD9.out.own ub 0 ⟨z5, u, IntKind.i64.wrap (1 + z9)⟩ 1 rfl HX.out.in_ (by omega) HD9.out.grown.size ?_
              intro vn wn on gn
              have HDF := Lib.hid (HD9.out.turn hp on ((Below.refl _ _).grown gn HD9.out.grown.size (fun k hk => (HD9.out.own.block k hk).1)))
              clear on gn
              refine hK.out _ _ ?_ (fun hHeld => ?_)
              · exact trivial
              clear hK K
              try simp only [List.getElem_toArray, List.getElem_cons_succ, List.getElem_cons_zero, Act.put, List.setIfInBounds_toArray, List.set_cons_zero, List.set_cons_succ]
              refine wpAnyH_take (i := 14) (v := ?_) rfl (by kernel_rfl) (by kernel_rfl) (by kernel_rfl) (fun _ _ _ h => h) (Or.inl ⟨by rfl, ?_⟩) (by assumption) ?_
              rotate_left
              · (intro w hSw; (try dsimp only at hSw); go_simp; (try with_reducible rfl))
              try simp only [List.getElem_toArray, List.getElem_cons_succ, List.getElem_cons_zero, Act.put, List.setIfInBounds_toArray, List.set_cons_zero, List.set_cons_succ]
              refine wpAnyH_done (by kernel_rfl) ?_ _
              have HLL := Lib.hid (show (t ++ [(⟨z5, u, IntKind.i64.wrap (1 + z9)⟩ : Dm)]).length + (m - 1) ≤ 12 from by rw [List.length_append, List.length_singleton]; omega)
              go_wp2_with fail
              go_roundw
              case rel => exact ⟨m - 1, _, by go_num, HLL.out, HDF.out⟩
              case measure => simp [intOf]; omega
            · skip
              go_simp
              refine (next_any _ _ _ HD7.out.src (by omega)).mono ?_
              rintro e wc8 ⟨z9, rfl, hz90, hz91, -, hs, gc⟩
              have hz92 : z9 < 9 := hz91 (by omega)
              have HD8 := Lib.hid (HD7.out.next hp hs gc)
              have HL8 := Lib.hid (HL7.out.src gc hpb)
              clear hz91 hs gc
              go_wp2_with fail
              refine hK.out _ _ ?_ (fun hHeld => ?_)
              · exact trivial
              clear hK K
              try simp only [List.getElem_toArray, List.getElem_cons_succ, List.getElem_cons_zero, Act.put, List.setIfInBounds_toArray, List.set_cons_zero, List.set_cons_succ]
              refine wpAnyH_take (i := 10) (v := ?_) rfl (by kernel_rfl) (by kernel_rfl) (by kernel_rfl) (fun _ _ _ h => h) (Or.inl ⟨by rfl, ?_⟩) (by assumption) ?_
              rotate_left
              · (intro w hSw; (try dsimp only at hSw); go_simp; (try with_reducible rfl))
              try simp only [List.getElem_toArray, List.getElem_cons_succ, List.getElem_cons_zero, Act.put, List.setIfInBounds_toArray, List.set_cons_zero, List.set_cons_succ]
              refine wpAnyH_ready (rs := [7]) (by kernel_rfl) (by simp) (AllReadyH.cons rfl (fun K hK => ?_) (AllReadyH.nil))
              obtain ⟨u, hu⟩ := six_ints (cs := #[.int .i64 1, .int .i64 2, .int .i64 4, .int .i64 8, .int .i64 2, .int .i64 4]) rfl hz63
              have hcell := (HL8.out.cell z6).trans hu
              clear hu
              go_simp
              refine hK.out _ _ ?_ (fun hHeld => ?_)
              · exact trivial
              clear hK K
              try simp only [List.getElem_toArray, List.getElem_cons_succ, List.getElem_cons_zero, Act.put, List.setIfInBounds_toArray, List.set_cons_zero, List.set_cons_succ]
              clear hcell
              refine wpAnyH_take (i := 11) (v := ?_) rfl (by kernel_rfl) (by kernel_rfl) (by kernel_rfl) (fun _ _ _ h => h) (Or.inl ⟨by rfl, ?_⟩) (by assumption) ?_
              rotate_left
              · (intro w hSw; (try dsimp only at hSw); go_simp; (try with_reducible rfl))
              try simp only [List.getElem_toArray, List.getElem_cons_succ, List.getElem_cons_zero, Act.put, List.setIfInBounds_toArray, List.set_cons_zero, List.set_cons_succ]
              refine wpAnyH_ready (rs := [12]) (by kernel_rfl) (by simp) (AllReadyH.cons rfl (fun K hK => ?_) (AllReadyH.nil))
              go_simp
              have hbl : Below wc8.heap.size wc8 (wc8.alloc (.cells #[.int .i64 z5, .int .i64 u, .int .i64 (IntKind.i64.wrap (1 + z9))] 38)) := (Below.refl _ _).alloc (Nat.le_refl _) _
              have HD9 := Lib.hid (HD8.out.still hbl)
              have HX := Lib.hid (DmBk.new (T := 38) (x := ⟨z5, u, IntKind.i64.wrap (1 + z9)⟩) wc8)
              clear hbl
              generalize wc8.heap.size = ub at HX ⊢
              generalize wc8.alloc (.cells #[.int .i64 z5, .int .i64 u, .int .i64 (IntKind.i64.wrap (1 + z9))] 38) = wu at HD9 HX ⊢
              refine hK.out _ _ ?_ (fun hHeld => ?_)
              · exact trivial
              clear hK K
              try simp only [List.getElem_toArray, List.getElem_cons_succ, List.getElem_cons_zero, Act.put, List.setIfInBounds_toArray, List.set_cons_zero, List.set_cons_succ]
              refine wpAnyH_ready (rs := [13]) (by kernel_rfl) (by simp) (AllReadyH.cons rfl (fun K hK => ?_) (AllReadyH.nil))
              refine app_dm _ (.tmp 12) (.tmp 24) rfl w.heap.size Try.underlying24 info_dm _ t rfl HD9.out.own ub 0 ⟨z5, u, IntKind.i64.wrap (1 + z9)⟩ 1 rfl HX.out.in_ (by omega) HD9.out.grown.size ?_
              intro vn wn on gn
              have HDF := Lib.hid (HD9.out.turn hp on ((Below.refl _ _).grown gn HD9.out.grown.size (fun k hk => (HD9.out.own.block k hk).1)))
              clear on gn
              refine hK.out _ _ ?_ (fun hHeld => ?_)
              · exact trivial
              clear hK K
              try simp only [List.getElem_toArray, List.getElem_cons_succ, List.getElem_cons_zero, Act.put, List.setIfInBounds_toArray, List.set_cons_zero, List.set_cons_succ]
              refine wpAnyH_take (i := 14) (v := ?_) rfl (by kernel_rfl) (by kernel_rfl) (by kernel_rfl) (fun _ _ _ h => h) (Or.inl ⟨by rfl, ?_⟩) (by assumption) ?_
              rotate_left
              · (intro w hSw; (try dsimp only at hSw); go_simp; (try with_reducible rfl))
              try simp only [List.getElem_toArray, List.getElem_cons_succ, List.getElem_cons_zero, Act.put, List.setIfInBounds_toArray, List.set_cons_zero, List.set_cons_succ]
              refine wpAnyH_done (by kernel_rfl) ?_ _
              have HLL := Lib.hid (show (t ++ [(⟨z5, u, IntKind.i64.wrap (1 + z9)⟩ : Dm)]).length + (m - 1) ≤ 12 from by rw [List.length_append, List.length_singleton]; omega)
              go_wp2_with fail
              go_roundw
              case rel => exact ⟨m - 1, _, by go_num, HLL.out, HDF.out⟩
              case measure => simp [intOf]; omega
          · skip
            go_simp
            refine (next_any _ _ _ HD6.out.src (by omega)).mono ?_
            rintro e wc7 ⟨z9, rfl, hz90, hz91, -, hs, gc⟩
            have hz92 : z9 < 9 := hz91 (by omega)
            have HD7 := Lib.hid (HD6.out.next hp hs gc)
            clear hz91 hs gc
            go_wp2_with fail
            refine hK.out _ _ ?_ (fun hHeld => ?_)
            · exact trivial
            clear hK K
            try simp only [List.getElem_toArray, List.getElem_cons_succ, List.getElem_cons_zero, Act.put, List.setIfInBounds_toArray, List.set_cons_zero, List.set_cons_succ]
            refine wpAnyH_take (i := 10) (v := ?_) rfl (by kernel_rfl) (by kernel_rfl) (by kernel_rfl) (fun _ _ _ h => h) (Or.inl ⟨by rfl, ?_⟩) (by assumption) ?_
            rotate_left
            · (intro w hSw; (try dsimp only at hSw); go_simp; (try with_reducible rfl))
            try simp only [List.getElem_toArray, List.getElem_cons_succ, List.getElem_cons_zero, Act.put, List.setIfInBounds_toArray, List.set_cons_zero, List.set_cons_succ]
            refine wpAnyH_ready (rs := [3]) (by kernel_rfl) (by simp) (AllReadyH.cons rfl (fun K hK => ?_) (AllReadyH.nil))
            go_simp
            have hbl : Below wc7.heap.size wc7 (wc7.alloc (.cells #[.int .i64 1, .int .i64 2, .int .i64 4, .int .i64 8, .int .i64 2, .int .i64 4] 2)) := (Below.refl _ _).alloc (Nat.le_refl _) _
            have HD8 := Lib.hid (HD7.out.still hbl)
            have HL8 := Lib.hid (show LitD 2 (wc7.alloc (.cells #[.int .i64 1, .int .i64 2, .int .i64 4, .int .i64 8, .int .i64 2, .int .i64 4] 2)) wc7.heap.size #[.int .i64 1, .int .i64 2, .int .i64 4, .int .i64 8, .int .i64 2, .int .i64 4] from LitD.new _)
            have hpb : p < wc7.heap.size := HD7.out.src.lt
            clear hbl
            generalize hwb : wc7.heap.size = tb at HL8 hpb ⊢
            generalize wc7.alloc (.cells #[.int .i64 1, .int .i64 2, .int .i64 4, .int .i64 8, .int .i64 2, .int .i64 4] 2) = wa8 at HD8 HL8 ⊢
            clear hwb
            refine hK.out _ _ ?_ (fun hHeld => ?_)
            · exact trivial
            clear hK K
            try simp only [List.getElem_toArray, List.getElem_cons_succ, List.getElem_cons_zero, Act.put, List.setIfInBounds_toArray, List.set_cons_zero, List.set_cons_succ]
            refine wpAnyH_take (i := 6) (v := ?_) rfl (by kernel_rfl) (by kernel_rfl) (by kernel_rfl) (fun _ _ _ h => h) (Or.inl ⟨by rfl, ?_⟩) (by assumption) ?_
            rotate_left
            · (intro w hSw; (try dsimp only at hSw); go_simp; (try with_reducible rfl))
            try simp only [List.getElem_toArray, List.getElem_cons_succ, List.getElem_cons_zero, Act.put, List.setIfInBounds_toArray, List.set_cons_zero, List.set_cons_succ]
            refine wpAnyH_ready (rs := [7]) (by kernel_rfl) (by simp) (AllReadyH.cons rfl (fun K hK => ?_) (AllReadyH.nil))
            obtain ⟨u, hu⟩ := six_ints (cs := #[.int .i64 1, .int .i64 2, .int .i64 4, .int .i64 8, .int .i64 2, .int .i64 4]) rfl hz63
            have hcell := (HL8.out.cell z6).trans hu
            clear hu
            go_simp
            refine hK.out _ _ ?_ (fun hHeld => ?_)
            · exact trivial
            clear hK K
            try simp only [List.getElem_toArray, List.getElem_cons_succ, List.getElem_cons_zero, Act.put, List.setIfInBounds_toArray, List.set_cons_zero, List.set_cons_succ]
            clear hcell
            refine wpAnyH_take (i := 11) (v := ?_) rfl (by kernel_rfl) (by kernel_rfl) (by kernel_rfl) (fun _ _ _ h => h) (Or.inl ⟨by rfl, ?_⟩) (by assumption) ?_
            rotate_left
            · (intro w hSw; (try dsimp only at hSw); go_simp; (try with_reducible rfl))
            try simp only [List.getElem_toArray, List.getElem_cons_succ, List.getElem_cons_zero, Act.put, List.setIfInBounds_toArray, List.set_cons_zero, List.set_cons_succ]
            refine wpAnyH_ready (rs := [12]) (by kernel_rfl) (by simp) (AllReadyH.cons rfl (fun K hK => ?_) (AllReadyH.nil))
            go_simp
            have hbl : Below wa8.heap.size wa8 (wa8.alloc (.cells #[.int .i64 z5, .int .i64 u, .int .i64 (IntKind.i64.wrap (1 + z9))] 38)) := (Below.refl _ _).alloc (Nat.le_refl _) _
            have HD9 := Lib.hid (HD8.out.still hbl)
            have HX := Lib.hid (DmBk.new (T := 38) (x := ⟨z5, u, IntKind.i64.wrap (1 + z9)⟩) wa8)
            clear hbl
            generalize wa8.heap.size = ub at HX ⊢
            generalize wa8.alloc (.cells #[.int .i64 z5, .int .i64 u, .int .i64 (IntKind.i64.wrap (1 + z9))] 38) = wu at HD9 HX ⊢
            refine hK.out _ _ ?_ (fun hHeld => ?_)
            · exact trivial
            clear hK K
            try simp only [List.getElem_toArray, List.getElem_cons_succ, List.getElem_cons_zero, Act.put, List.setIfInBounds_toArray, List.set_cons_zero, List.set_cons_succ]
            refine wpAnyH_ready (rs := [13]) (by kernel_rfl) (by simp) (AllReadyH.cons rfl (fun K hK => ?_) (AllReadyH.nil))
            refine app_dm _ (.tmp 12) (.tmp 24) rfl w.heap.size Try.underlying24 info_dm _ t rfl HD9.out.own ub 0 ⟨z5, u, IntKind.i64.wrap (1 + z9)⟩ 1 rfl HX.out.in_ (by omega) HD9.out.grown.size ?_
            intro vn wn on gn
            have HDF := Lib.hid (HD9.out.turn hp on ((Below.refl _ _).grown gn HD9.out.grown.size (fun k hk => (HD9.out.own.block k hk).1)))
            clear on gn
            refine hK.out _ _ ?_ (fun hHeld => ?_)
            · exact trivial
            clear hK K
            try simp only [List.getElem_toArray, List.getElem_cons_succ, List.getElem_cons_zero, Act.put, List.setIfInBounds_toArray, List.set_cons_zero, List.set_cons_succ]
            refine wpAnyH_take (i := 14) (v := ?_) rfl (by kernel_rfl) (by kernel_rfl) (by kernel_rfl) (fun _ _ _ h => h) (Or.inl ⟨by rfl, ?_⟩) (by assumption) ?_
            rotate_left
            · (intro w hSw; (try dsimp only at hSw); go_simp; (try with_reducible rfl))
            try simp only [List.getElem_toArray, List.getElem_cons_succ, List.getElem_cons_zero, Act.put, List.setIfInBounds_toArray, List.set_cons_zero, List.set_cons_succ]
            refine wpAnyH_done (by kernel_rfl) ?_ _
            have HLL := Lib.hid (show (t ++ [(⟨z5, u, IntKind.i64.wrap (1 + z9)⟩ : Dm)]).length + (m - 1) ≤ 12 from by rw [List.length_append, List.length_singleton]; omega)
            go_wp2_with fail
            go_roundw
            case rel => exact ⟨m - 1, _, by go_num, HLL.out, HDF.out⟩
            case measure => simp [intOf]; omega
      · skip
        go_simp
        have hbl : Below wd.heap.size wd (wd.alloc (.cells #[.int .i64 1, .int .i64 2, .int .i64 4, .int .i64 8, .int .i64 2, .int .i64 4] 2)) := (Below.refl _ _).alloc (Nat.le_refl _) _
        have HD5 := Lib.hid (HD4.out.still hbl)
        have HL5 := Lib.hid (show LitD 2 (wd.alloc (.cells #[.int .i64 1, .int .i64 2, .int .i64 4, .int .i64 8, .int .i64 2, .int .i64 4] 2)) wd.heap.size #[.int .i64 1, .int .i64 2, .int .i64 4, .int .i64 8, .int .i64 2, .int .i64 4] from LitD.new _)
        have hpb : p < wd.heap.size := HD4.out.src.lt
        clear hbl
        generalize hwb : wd.heap.size = tb at HL5 hpb ⊢
        generalize wd.alloc (.cells #[.int .i64 1, .int .i64 2, .int .i64 4, .int .i64 8, .int .i64 2, .int .i64 4] 2) = wa5 at HD5 HL5 ⊢
        clear hwb
        refine hK.out _ _ ?_ (fun hHeld => ?_)
        · exact trivial
        clear hK K
        try simp only [List.getElem_toArray, List.getElem_cons_succ, List.getElem_cons_zero, Act.put, List.setIfInBounds_toArray, List.set_cons_zero, List.set_cons_succ]
        refine wpAnyH_ready (rs := [2]) (by kernel_rfl) (by simp) (AllReadyH.cons rfl (fun K hK => ?_) (AllReadyH.nil))
        go_simp
        refine (next_any _ _ _ HD5.out.src (by omega)).mono ?_
        rintro e wc6 ⟨z5, rfl, hz50, hz51, -, hs, gc⟩
        have hz52 : z5 < 5 := hz51 (by omega)
        have HD6 := Lib.hid (HD5.out.next hp hs gc)
        have HL6 := Lib.hid (HL5.out.src gc hpb)
        clear hz51 hs gc
        go_wp2_with fail
        refine hK.out _ _ ?_ (fun hHeld => ?_)
        · exact trivial
        clear hK K
        try simp only [List.getElem_toArray, List.getElem_cons_succ, List.getElem_cons_zero, Act.put, List.setIfInBounds_toArray, List.set_cons_zero, List.set_cons_succ]
        refine wpAnyH_ready (rs := [5]) (by kernel_rfl) (by simp) (AllReadyH.cons rfl (fun K hK => ?_) (AllReadyH.nil))
        go_simp
        refine (next_any _ _ _ HD6.out.src (by omega)).mono ?_
        rintro e wc7 ⟨z6, rfl, hz60, hz61, -, hs, gc⟩
        have hz62 : z6 < 6 := hz61 (by omega)
        obtain ⟨z6, rfl⟩ := Int.eq_ofNat_of_zero_le hz60
        have hz63 : z6 < 6 := by omega
        have HD7 := Lib.hid (HD6.out.next hp hs gc)
        have HL7 := Lib.hid (HL6.out.src gc hpb)
        clear hz61 hs gc
        go_wp2_with fail
        refine hK.out _ _ ?_ (fun hHeld => ?_)
        · exact trivial
        clear hK K
        try simp only [List.getElem_toArray, List.getElem_cons_succ, List.getElem_cons_zero, Act.put, List.setIfInBounds_toArray, List.set_cons_zero, List.set_cons_succ]
        refine wpAnyH_take (i := 6) (v := ?_) rfl (by kernel_rfl) (by kernel_rfl) (by kernel_rfl) (fun _ _ _ h => h) (Or.inl ⟨by rfl, ?_⟩) (by assumption) ?_
        rotate_left
        · (intro w hSw; (try dsimp only at hSw); go_simp; (try with_reducible rfl))
        try simp only [List.getElem_toArray, List.getElem_cons_succ, List.getElem_cons_zero, Act.put, List.setIfInBounds_toArray, List.set_cons_zero, List.set_cons_succ]
        refine wpAnyH_ready (rs := [7, 9]) (by kernel_rfl) (by simp) (AllReadyH.cons rfl (fun K hK => ?_) (AllReadyH.cons rfl (fun K hK => ?_) (AllReadyH.nil)))
        · skip
          obtain ⟨u, hu⟩ := six_ints (cs := #[.int .i64 1, .int .i64 2, .int .i64 4, .int .i64 8, .int .i64 2, .int .i64 4]) rfl hz63
          have hcell := (HL7.out.cell z6).trans hu
          clear hu
          go_simp
          refine hK.out _ _ ?_ (fun hHeld => ?_)
          · exact trivial
          clear hK K
          try simp only [List.getElem_toArray, List.getElem_cons_succ, List.getElem_cons_zero, Act.put, List.setIfInBounds_toArray, List.set_cons_zero, List.set_cons_succ]
          clear hcell
          refine wpAnyH_ready (rs := [9]) (by kernel_rfl) (by simp) (AllReadyH.cons rfl (fun K hK => ?_) (AllReadyH.nil))
          go_simp
          refine (next_any _ _ _ HD7.out.src (by omega)).mono ?_
          rintro e wc8 ⟨z9, rfl, hz90, hz91, -, hs, gc⟩
          have hz92 : z9 < 9 := hz91 (by omega)
          have HD8 := Lib.hid (HD7.out.next hp hs gc)
          have HL8 := Lib.hid (HL7.out.src gc hpb)
          clear hz91 hs gc
          go_wp2_with fail
          refine hK.out _ _ ?_ (fun hHeld => ?_)
          · exact trivial
          clear hK K
          try simp only [List.getElem_toArray, List.getElem_cons_succ, List.getElem_cons_zero, Act.put, List.setIfInBounds_toArray, List.set_cons_zero, List.set_cons_succ]
          refine wpAnyH_take (i := 10) (v := ?_) rfl (by kernel_rfl) (by kernel_rfl) (by kernel_rfl) (fun _ _ _ h => h) (Or.inl ⟨by rfl, ?_⟩) (by assumption) ?_
          rotate_left
          · (intro w hSw; (try dsimp only at hSw); go_simp; (try with_reducible rfl))
          try simp only [List.getElem_toArray, List.getElem_cons_succ, List.getElem_cons_zero, Act.put, List.setIfInBounds_toArray, List.set_cons_zero, List.set_cons_succ]
          refine wpAnyH_take (i := 11) (v := ?_) rfl (by kernel_rfl) (by kernel_rfl) (by kernel_rfl) (fun _ _ _ h => h) (Or.inl ⟨by rfl, ?_⟩) (by assumption) ?_
          rotate_left
          · (intro w hSw; (try dsimp only at hSw); go_simp; (try with_reducible rfl))
          try simp only [List.getElem_toArray, List.getElem_cons_succ, List.getElem_cons_zero, Act.put, List.setIfInBounds_toArray, List.set_cons_zero, List.set_cons_succ]
          refine wpAnyH_ready (rs := [12]) (by kernel_rfl) (by simp) (AllReadyH.cons rfl (fun K hK => ?_) (AllReadyH.nil))
          go_simp
          have hbl : Below wc8.heap.size wc8 (wc8.alloc (.cells #[.int .i64 z5, .int .i64 u, .int .i64 (IntKind.i64.wrap (1 + z9))] 38)) := (Below.refl _ _).alloc (Nat.le_refl _) _
          have HD9 := Lib.hid (HD8.out.still hbl)
          have HX := Lib.hid (DmBk.new (T := 38) (x := ⟨z5, u, IntKind.i64.wrap (1 + z9)⟩) wc8)
          clear hbl
          generalize wc8.heap.size = ub at HX ⊢
          generalize wc8.alloc (.cells #[.int .i64 z5, .int .i64 u, .int .i64 (IntKind.i64.wrap (1 + z9))] 38) = wu at HD9 HX ⊢
          refine hK.out _ _ ?_ (fun hHeld => ?_)
          · exact trivial
          clear hK K
          try simp only [List.getElem_toArray, List.getElem_cons_succ, List.getElem_cons_zero, Act.put, List.setIfInBounds_toArray, List.set_cons_zero, List.set_cons_succ]
          refine wpAnyH_ready (rs := [13]) (by kernel_rfl) (by simp) (AllReadyH.cons rfl (fun K hK => ?_) (AllReadyH.nil))
          refine app_dm _ (.tmp 12) (.tmp 24) rfl w.heap.size Try.underlying24 info_dm _ t rfl HD9.out.own ub 0 ⟨z5, u, IntKind.i64.wrap (1 + z9)⟩ 1 rfl HX.out.in_ (by omega) HD9.out.grown.size ?_
          intro vn wn on gn
          have HDF := Lib.hid (HD9.out.turn hp on ((Below.refl _ _).grown gn HD9.out.grown.size (fun k hk => (HD9.out.own.block k hk).1)))
          clear on gn
          refine hK.out _ _ ?_ (fun hHeld => ?_)
          · exact trivial
          clear hK K
          try simp only [List.getElem_toArray, List.getElem_cons_succ, List.getElem_cons_zero, Act.put, List.setIfInBounds_toArray, List.set_cons_zero, List.set_cons_succ]
          refine wpAnyH_take (i := 14) (v := ?_) rfl (by kernel_rfl) (by kernel_rfl) (by kernel_rfl) (fun _ _ _ h => h) (Or.inl ⟨by rfl, ?_⟩) (by assumption) ?_
          rotate_left
          · (intro w hSw; (try dsimp only at hSw); go_simp; (try with_reducible rfl))
          try simp only [List.getElem_toArray, List.getElem_cons_succ, List.getElem_cons_zero, Act.put, List.setIfInBounds_toArray, List.set_cons_zero, List.set_cons_succ]
          refine wpAnyH_done (by kernel_rfl) ?_ _
          have HLL := Lib.hid (show (t ++ [(⟨z5, u, IntKind.i64.wrap (1 + z9)⟩ : Dm)]).length + (m - 1) ≤ 12 from by rw [List.length_append, List.length_singleton]; omega)
          go_wp2_with fail
          go_roundw
          case rel => exact ⟨m - 1, _, by go_num, HLL.out, HDF.out⟩
          case measure => simp [intOf]; omega
        · skip
          go_simp
          refine (next_any _ _ _ HD7.out.src (by omega)).mono ?_
          rintro e wc8 ⟨z9, rfl, hz90, hz91, -, hs, gc⟩
          have hz92 : z9 < 9 := hz91 (by omega)
          have HD8 := Lib.hid (HD7.out.next hp hs gc)
          have HL8 := Lib.hid (HL7.out.src gc hpb)
          clear hz91 hs gc
          go_wp2_with fail
          refine hK.out _ _ ?_ (fun hHeld => ?_)
          · exact trivial
          clear hK K
          try simp only [List.getElem_toArray, List.getElem_cons_succ, List.getElem_cons_zero, Act.put, List.setIfInBounds_toArray, List.set_cons_zero, List.set_cons_succ]
          refine wpAnyH_take (i := 10) (v := ?_) rfl (by kernel_rfl) (by kernel_rfl) (by kernel_rfl) (fun _ _ _ h => h) (Or.inl ⟨by rfl, ?_⟩) (by assumption) ?_
          rotate_left
          · (intro w hSw; (try dsimp only at hSw); go_simp; (try with_reducible rfl))
          try simp only [List.getElem_toArray, List.getElem_cons_succ, List.getElem_cons_zero, Act.put, List.setIfInBounds_toArray, List.set_cons_zero, List.set_cons_succ]
          refine wpAnyH_ready (rs := [7]) (by kernel_rfl) (by simp) (AllReadyH.cons rfl (fun K hK => ?_) (AllReadyH.nil))
          obtain ⟨u, hu⟩ := six_ints (cs := #[.int .i64 1, .int .i64 2, .int .i64 4, .int .i64 8, .int .i64 2, .int .i64 4]) rfl hz63
          have hcell := (HL8.out.cell z6).trans hu
          clear hu
          go_simp
          refine hK.out _ _ ?_ (fun hHeld => ?_)
          · exact trivial
          clear hK K
          try simp only [List.getElem_toArray, List.getElem_cons_succ, List.getElem_cons_zero, Act.put, List.setIfInBounds_toArray, List.set_cons_zero, List.set_cons_succ]
          clear hcell
          refine wpAnyH_take (i := 11) (v := ?_) rfl (by kernel_rfl) (by kernel_rfl) (by kernel_rfl) (fun _ _ _ h => h) (Or.inl ⟨by rfl, ?_⟩) (by assumption) ?_
          rotate_left
          · (intro w hSw; (try dsimp only at hSw); go_simp; (try with_reducible rfl))
          try simp only [List.getElem_toArray, List.getElem_cons_succ, List.getElem_cons_zero, Act.put, List.setIfInBounds_toArray, List.set_cons_zero, List.set_cons_succ]
          refine wpAnyH_ready (rs := [12]) (by kernel_rfl) (by simp) (AllReadyH.cons rfl (fun K hK => ?_) (AllReadyH.nil))
          go_simp
          have hbl : Below wc8.heap.size wc8 (wc8.alloc (.cells #[.int .i64 z5, .int .i64 u, .int .i64 (IntKind.i64.wrap (1 + z9))] 38)) := (Below.refl _ _).alloc (Nat.le_refl _) _
          have HD9 := Lib.hid (HD8.out.still hbl)
          have HX := Lib.hid (DmBk.new (T := 38) (x := ⟨z5, u, IntKind.i64.wrap (1 + z9)⟩) wc8)
          clear hbl
          generalize wc8.heap.size = ub at HX ⊢
          generalize wc8.alloc (.cells #[.int .i64 z5, .int .i64 u, .int .i64 (IntKind.i64.wrap (1 + z9))] 38) = wu at HD9 HX ⊢
          refine hK.out _ _ ?_ (fun hHeld => ?_)
          · exact trivial
          clear hK K
          try simp only [List.getElem_toArray, List.getElem_cons_succ, List.getElem_cons_zero, Act.put, List.setIfInBounds_toArray, List.set_cons_zero, List.set_cons_succ]
          refine wpAnyH_ready (rs := [13]) (by kernel_rfl) (by simp) (AllReadyH.cons rfl (fun K hK => ?_) (AllReadyH.nil))
          refine app_dm _ (.tmp 12) (.tmp 24) rfl w.heap.size Try.underlying24 info_dm _ t rfl HD9.out.own ub 0 ⟨z5, u, IntKind.i64.wrap (1 + z9)⟩ 1 rfl HX.out.in_ (by omega) HD9.out.grown.size ?_
          intro vn wn on gn
          have HDF := Lib.hid (HD9.out.turn hp on ((Below.refl _ _).grown gn HD9.out.grown.size (fun k hk => (HD9.out.own.block k hk).1)))
          clear on gn
          refine hK.out _ _ ?_ (fun hHeld => ?_)
          · exact trivial
          clear hK K
          try simp only [List.getElem_toArray, List.getElem_cons_succ, List.getElem_cons_zero, Act.put, List.setIfInBounds_toArray, List.set_cons_zero, List.set_cons_succ]
          refine wpAnyH_take (i := 14) (v := ?_) rfl (by kernel_rfl) (by kernel_rfl) (by kernel_rfl) (fun _ _ _ h => h) (Or.inl ⟨by rfl, ?_⟩) (by assumption) ?_
          rotate_left
          · (intro w hSw; (try dsimp only at hSw); go_simp; (try with_reducible rfl))
          try simp only [List.getElem_toArray, List.getElem_cons_succ, List.getElem_cons_zero, Act.put, List.setIfInBounds_toArray, List.set_cons_zero, List.set_cons_succ]
          refine wpAnyH_done (by kernel_rfl) ?_ _
          have HLL := Lib.hid (show (t ++ [(⟨z5, u, IntKind.i64.wrap (1 + z9)⟩ : Dm)]).length + (m - 1) ≤ 12 from by rw [List.length_append, List.length_singleton]; omega)
          go_wp2_with fail
          go_roundw
          case rel => exact ⟨m - 1, _, by go_num, HLL.out, HDF.out⟩
          case measure => simp [intOf]; omega
    · have hm0 : m = 0 := by omega
      subst hm0
      clear hm
      obtain ⟨ao, cap, rfl, r1, hcap, hmax, hcase⟩ := HD.out.own.form
      rcases Nat.eq_zero_or_pos t.length with hz | hl1
      · obtain rfl : t = [] := List.eq_nil_of_length_eq_zero hz
        clear r1 hcase hmax hz hl hcap
        simp only [List.length_nil] at HD ⊢
        go_wp2_with fail
        go_ret
        exact ⟨_, [], rfl, HD.out.own, by simp, HD.out.src, HD.out.grown⟩
      have hg : ∃ g, ao = some ⟨g, 0, none⟩ := by
        rcases hcase with h | ⟨g, h, -⟩
        · simp only [Value.slice.injEq] at h; omega
        · exact ⟨g, h⟩
      obtain ⟨g, rfl⟩ := hg
      obtain ⟨n, hn⟩ : ∃ n, n = t.length := ⟨_, rfl⟩
      rw [← hn] at HD hl1 hl hcap ⊢
      have hcm : cap ≤ 9223372036854775807 := by unfold maxLen at hmax; omega
      have HN := Lib.hid hn
      have hn12 : n ≤ 12 := by omega
      have hn0 : (0 : Int) < (n : Int) := by omega
      clear r1 hcase hmax hn hl
      go_wp2_with fail
      refine (next_any _ _ _ HD.out.src (by omega)).mono ?_
      rintro e w3 ⟨y, rfl, hy0, -, -, hs3, g3⟩
      have HD3 := Lib.hid (HD.out.next hp hs3 g3)
      clear hs3 g3 HD
      by_cases h0 : y = 0
      · subst h0
        have hbl : Below w3.heap.size w3 (w3.alloc (.cells #[.int .i64 0, .int .i64 3, .int .i64 16] 2)) := (Below.refl _ _).alloc (Nat.le_refl _) _
        have HDB := Lib.hid (HD3.out.still hbl)
        have HP3 := Lib.hid HD3.out.src.lt; clear hbl HD3
        go_wp2_with fail
        refine (next_any _ _ _ HDB.out.src (by omega)).mono ?_
        rintro e w4 ⟨z, rfl, hz0, hz1, -, hs4, g4⟩
        have hz2 : z < 3 := hz1 (by omega)
        obtain ⟨z, rfl⟩ := Int.eq_ofNat_of_zero_le hz0
        have hz3 : z < 3 := by omega
        obtain ⟨u, hu⟩ := threeI (cs := #[.int .i64 0, .int .i64 3, .int .i64 16]) rfl hz3
        have hcell : w4.cell? ⟨w3.heap.size, z, none⟩ = some (.int .i64 u) := (table_cell g4 HP3.out z).trans hu
        have HD4 := Lib.hid (HDB.out.next hp hs4 g4)
        clear hz1 hs4 g4 HDB hu hz3
        have hin := HD4.out.own.in_ HN.out.symm hl1
        generalize hxe : dmOf t 0 = x at hin
        obtain ⟨c0, c1, c2⟩ := hin
        obtain ⟨f0, o5, b5⟩ := HD4.out.own.field (j := 1) (u := .int .i64 u) (y := ⟨x.node, u, x.size⟩) HN.out.symm hl1 (by omega) (by rw [hxe]; rfl)
        have HD5 := Lib.hid (HD4.out.turn hp o5 b5)
        have HL5 := Lib.hid (show (t.set 0 ⟨x.node, u, x.size⟩).length ≤ 41 from by rw [List.length_set, ← HN.out]; omega)
        clear o5 b5 hxe
        simp only [Nat.zero_mul, Nat.zero_add] at c0 c1 c2 f0 HD5
        go_wp2_with fail
        go_ret
        exact ⟨_, _, rfl, HD5.out.own, HL5.out, HD5.out.src, HD5.out.grown⟩
      have t0 : (y == 0) = false := by simp [h0]
      clear h0
      by_cases h1 : y = 1
      · subst h1
        have hbl : Below w3.heap.size w3 (w3.alloc (.cells #[.int .i64 0, .int .i64 32, .int .i64 33] 2)) := (Below.refl _ _).alloc (Nat.le_refl _) _
        have HDB := Lib.hid (HD3.out.still hbl)
        have HP3 := Lib.hid HD3.out.src.lt; clear hbl HD3
        go_wp2_with fail
        refine (next_any _ _ _ HDB.out.src (by omega)).mono ?_
        rintro e w4 ⟨z, rfl, hz0, hz1, -, hs4, g4⟩
        have hz2 : z < 3 := hz1 (by omega)
        obtain ⟨z, rfl⟩ := Int.eq_ofNat_of_zero_le hz0
        have hz3 : z < 3 := by omega
        obtain ⟨u, hu⟩ := threeI (cs := #[.int .i64 0, .int .i64 32, .int .i64 33]) rfl hz3
        have hcell : w4.cell? ⟨w3.heap.size, z, none⟩ = some (.int .i64 u) := (table_cell g4 HP3.out z).trans hu
        have HD4 := Lib.hid (HDB.out.next hp hs4 g4)
        clear hz1 hs4 g4 HDB hu hz3
        have hin := HD4.out.own.in_ HN.out.symm hl1
        generalize hxe : dmOf t 0 = x at hin
        obtain ⟨c0, c1, c2⟩ := hin
        obtain ⟨f0, o5, b5⟩ := HD4.out.own.field (j := 2) (u := .int .i64 u) (y := ⟨x.node, x.every, u⟩) HN.out.symm hl1 (by omega) (by rw [hxe]; rfl)
        have HD5 := Lib.hid (HD4.out.turn hp o5 b5)
        have HL5 := Lib.hid (show (t.set 0 ⟨x.node, x.every, u⟩).length ≤ 41 from by rw [List.length_set, ← HN.out]; omega)
        clear o5 b5 hxe
        simp only [Nat.zero_mul, Nat.zero_add] at c0 c1 c2 f0 HD5
        go_wp2_with fail
        go_ret
        exact ⟨_, _, rfl, HD5.out.own, HL5.out, HD5.out.src, HD5.out.grown⟩
      have t1 : (y == 1) = false := by simp [h1]
      clear h1
      by_cases h2 : y = 2
      · subst h2
        have hbl : Below w3.heap.size w3 (w3.alloc (.cells #[.int .i64 (-1), .int .i64 32] 2)) := (Below.refl _ _).alloc (Nat.le_refl _) _
        have HDB := Lib.hid (HD3.out.still hbl)
        have HP3 := Lib.hid HD3.out.src.lt; clear hbl HD3
        go_wp2_with fail
        refine (next_any _ _ _ HDB.out.src (by omega)).mono ?_
        rintro e w4 ⟨z, rfl, hz0, hz1, -, hs4, g4⟩
        have hz2 : z < 2 := hz1 (by omega)
        obtain ⟨z, rfl⟩ := Int.eq_ofNat_of_zero_le hz0
        have hz3 : z < 2 := by omega
        obtain ⟨u, hu⟩ := twoI (cs := #[.int .i64 (-1), .int .i64 32]) rfl hz3
        have hcell : w4.cell? ⟨w3.heap.size, z, none⟩ = some (.int .i64 u) := (table_cell g4 HP3.out z).trans hu
        have HD4 := Lib.hid (HDB.out.next hp hs4 g4)
        clear hz1 hs4 g4 HDB hu hz3
        have hin := HD4.out.own.in_ HN.out.symm hl1
        generalize hxe : dmOf t 0 = x at hin
        obtain ⟨c0, c1, c2⟩ := hin
        obtain ⟨f0, o5, b5⟩ := HD4.out.own.field (j := 0) (u := .int .i64 u) (y := ⟨u, x.every, x.size⟩) HN.out.symm hl1 (by omega) (by rw [hxe]; rfl)
        have HD5 := Lib.hid (HD4.out.turn hp o5 b5)
        have HL5 := Lib.hid (show (t.set 0 ⟨u, x.every, x.size⟩).length ≤ 41 from by rw [List.length_set, ← HN.out]; omega)
        clear o5 b5 hxe
        simp only [Nat.zero_mul, Nat.zero_add] at c0 c1 c2 f0 HD5
        go_wp2_with fail
        go_ret
        exact ⟨_, _, rfl, HD5.out.own, HL5.out, HD5.out.src, HD5.out.grown⟩
      have t2 : (y == 2) = false := by simp [h2]
      clear h2
      by_cases h3 : y = 3
      · subst h3
        go_wp2_with fail
        go_loopw [3] (fun V wr => ∃ t : List Dm, 0 < t.length ∧ t.length ≤ 41 ∧ Hid (DrD w wr p V t)) (fun V _ => 41 - lenOfV V)
        case atStart => exact ⟨t, by have := HN.out; omega, by have := HN.out; omega, HD3.out⟩
        case round =>
          clear HD3 HN hl1 hcap hcm hn12 hn0 t0 t1 t2
          obtain ⟨t, ht0, ht1, HD⟩ := hrel
          obtain ⟨ao, cap, rfl, r1, hcap, hmax, hcase⟩ := HD.out.own.form
          have hg : ∃ g, ao = some ⟨g, 0, none⟩ := by
            rcases hcase with h | ⟨g, h, -⟩
            · simp only [Value.slice.injEq] at h; omega
            · exact ⟨g, h⟩
          obtain ⟨g, rfl⟩ := hg
          obtain ⟨n, hn⟩ : ∃ n, n = t.length := ⟨_, rfl⟩
          rw [← hn] at HD ht0 ht1 hcap ⊢
          have HN := Lib.hid hn
          clear r1 hcase hmax hn
          go_wp2_with fail
          refine (next_any _ _ _ HD.out.src (by omega)).mono ?_
          rintro e w4 ⟨d, rfl, hd0, hd1, -, hs4, g4⟩
          have hd2 : d < 2 := hd1 (by omega)
          have HD4 := Lib.hid (HD.out.next hp hs4 g4)
          obtain ⟨d, rfl⟩ := Int.eq_ofNat_of_zero_le hd0
          clear hs4 g4 HD hd1 hd0
          by_cases hlt : n < 40 + d
          · have hlt' : (n : Int) < 40 + (d : Int) := by omega
            have hn0 : (0 : Int) < (n : Int) := by omega
            have hin := HD4.out.own.in_ HN.out.symm ht0
            generalize dmOf t 0 = x at hin
            obtain ⟨c0, c1, c2⟩ := hin
            simp only [Nat.zero_mul, Nat.zero_add] at c0 c1 c2
            have HX := Lib.hid (DmBk.new (T := 38) (x := x) w4)
            have hsz := HD4.out.grown.size
            have hbl : Below w4.heap.size w4 (w4.alloc (.cells #[.int .i64 x.node, .int .i64 x.every, .int .i64 x.size] 38)) := (Below.refl _ _).alloc (Nat.le_refl _) _
            have HBL := Lib.hid hbl; clear hbl
            have htl : t.length ≤ 1073741824 := by have := HN.out; omega
            go_wp2_with (at_builtin; refine append_dm _ rfl _ _ rfl w.heap.size Try.underlying24 info_dm _ t rfl (HD4.out.own.below HBL.out) w4.heap.size 0 x 1 rfl HX.out.in_ htl (by simp; omega) ?_; intro v6 w6 o6 b6)
            have HD6 := Lib.hid (HD4.out.turn hp o6 (((Below.refl _ _).alloc hsz _).trans b6))
            obtain ⟨ao6, cap6, rfl, -, -, -, -⟩ := HD6.out.own.form
            have HL6 := Lib.hid (show (t ++ [x]).length = n + 1 from by rw [List.length_append, List.length_singleton, HN.out])
            clear o6 b6 HX HBL HD4 c0 c1 c2
            rw [HL6.out] at HD6 ⊢
            go_roundw
            case rel => exact ⟨t ++ [x], by rw [HL6.out]; omega, by rw [HL6.out]; omega, HD6.out⟩
            case measure => simp [lenOfV]; omega
          · have hge : ¬ (n : Int) < 40 + (d : Int) := by omega
            go_wp2_with fail
            go_ret
            exact ⟨_, t, rfl, HD4.out.own, by have := HN.out; omega, HD4.out.src, HD4.out.grown⟩
      have t3 : (y == 3) = false := by simp [h3]
      clear h3
      go_wp2_with fail
      go_ret
      exact ⟨_, t, rfl, HD3.out.own, by have := HN.out; omega, HD3.out.src, HD3.out.grown⟩
/-- A drawn number. -/
def DrawnN (w : World) (p : Nat) (e : Ending) (w' : World) : Prop :=
  ∃ n : Int, e = .returned (.int .i64 n) ∧ Src 101 w' p ∧ w.grownBy w' (some p)
set_option maxHeartbeats 2000000 in
set_option maxRecDepth 100000 in
theorem l16DrawRounds_any (p : Nat) (w : World) (hs : Src 101 w p) : Calls Try.prog 48 #[.pointer (some ⟨p, 0, none⟩)] w (DrawnN w p) := by
  have HS0 := Lib.hid hs; clear hs
  go_enter Try.func48, Try.ntmps48
  go_wp2_with fail
  refine (next_any _ _ _ HS0.out (by omega)).mono ?_
  rintro e w1 ⟨d, rfl, hd0, -, -, hs1, g1⟩
  have HS1 := Lib.hid hs1; have HG1 := Lib.hid g1
  clear hs1 g1 hd0
  by_cases h0 : d = 0
  · subst h0
    have hbl : Below w1.heap.size w1 (w1.alloc (.cells #[.int .i64 0, .int .i64 3, .int .i64 16, .int .i64 2] 2)) := (Below.refl _ _).alloc (Nat.le_refl _) _
    have HSB := Lib.hid (HS1.out.below hbl); have HGB := Lib.hid (grown_trans HG1.out (grown_of_below hbl))
    have HP1 := Lib.hid HS1.out.lt
    clear hbl HS1 HG1
    go_wp2_with fail
    refine (next_any _ _ _ HSB.out (by omega)).mono ?_
    rintro e w2 ⟨z, rfl, hz0, hz1, -, hs2, g2⟩
    have hz2 : z < 4 := hz1 (by omega)
    obtain ⟨z, rfl⟩ := Int.eq_ofNat_of_zero_le hz0
    have hz3 : z < 4 := by omega
    obtain ⟨u, hu⟩ := fourI (cs := #[.int .i64 0, .int .i64 3, .int .i64 16, .int .i64 2]) rfl hz3
    have hcell : w2.cell? ⟨w1.heap.size, z, none⟩ = some (.int .i64 u) := (table_cell g2 HP1.out z).trans hu
    have HS2 := Lib.hid hs2; have HG2 := Lib.hid (grown_trans HGB.out g2)
    clear hz1 hs2 g2 HSB HGB hu hz3
    go_wp2_with fail
    go_ret
    exact ⟨_, rfl, HS2.out, HG2.out⟩
  · have t0 : (d == 0) = false := by simp [h0]
    clear h0
    have hbl : Below w1.heap.size w1 (w1.alloc (.cells #[.int .i64 8, .int .i64 4, .int .i64 8, .int .i64 2, .int .i64 1] 2)) := (Below.refl _ _).alloc (Nat.le_refl _) _
    have HSB := Lib.hid (HS1.out.below hbl); have HGB := Lib.hid (grown_trans HG1.out (grown_of_below hbl))
    have HP1 := Lib.hid HS1.out.lt
    clear hbl HS1 HG1
    go_wp2_with fail
    refine (next_any _ _ _ HSB.out (by omega)).mono ?_
    rintro e w2 ⟨z, rfl, hz0, hz1, -, hs2, g2⟩
    have hz2 : z < 5 := hz1 (by omega)
    obtain ⟨z, rfl⟩ := Int.eq_ofNat_of_zero_le hz0
    have hz3 : z < 5 := by omega
    obtain ⟨u, hu⟩ := fiveI (cs := #[.int .i64 8, .int .i64 4, .int .i64 8, .int .i64 2, .int .i64 1]) rfl hz3
    have hcell : w2.cell? ⟨w1.heap.size, z, none⟩ = some (.int .i64 u) := (table_cell g2 HP1.out z).trans hu
    have HS2 := Lib.hid hs2; have HG2 := Lib.hid (grown_trans HGB.out g2)
    clear hz1 hs2 g2 HSB HGB hu hz3
    go_wp2_with fail
    go_ret
    exact ⟨_, rfl, HS2.out, HG2.out⟩
set_option maxHeartbeats 2000000 in
set_option maxRecDepth 100000 in
theorem l16DrawSlots_any (p : Nat) (w : World) (hs : Src 101 w p) : Calls Try.prog 49 #[.pointer (some ⟨p, 0, none⟩)] w (DrawnN w p) := by
  have HS0 := Lib.hid hs; clear hs
  go_enter Try.func49, Try.ntmps49
  go_wp2_with fail
  refine (next_any _ _ _ HS0.out (by omega)).mono ?_
  rintro e w1 ⟨d, rfl, hd0, -, -, hs1, g1⟩
  have HS1 := Lib.hid hs1; have HG1 := Lib.hid g1
  clear hs1 g1 hd0
  by_cases h0 : d = 0
  · subst h0
    have hbl : Below w1.heap.size w1 (w1.alloc (.cells #[.int .i64 0, .int .i64 16, .int .i64 17] 2)) := (Below.refl _ _).alloc (Nat.le_refl _) _
    have HSB := Lib.hid (HS1.out.below hbl); have HGB := Lib.hid (grown_trans HG1.out (grown_of_below hbl))
    have HP1 := Lib.hid HS1.out.lt
    clear hbl HS1 HG1
    go_wp2_with fail
    refine (next_any _ _ _ HSB.out (by omega)).mono ?_
    rintro e w2 ⟨z, rfl, hz0, hz1, -, hs2, g2⟩
    have hz2 : z < 3 := hz1 (by omega)
    obtain ⟨z, rfl⟩ := Int.eq_ofNat_of_zero_le hz0
    have hz3 : z < 3 := by omega
    obtain ⟨u, hu⟩ := threeI (cs := #[.int .i64 0, .int .i64 16, .int .i64 17]) rfl hz3
    have hcell : w2.cell? ⟨w1.heap.size, z, none⟩ = some (.int .i64 u) := (table_cell g2 HP1.out z).trans hu
    have HS2 := Lib.hid hs2; have HG2 := Lib.hid (grown_trans HGB.out g2)
    clear hz1 hs2 g2 HSB HGB hu hz3
    go_wp2_with fail
    go_ret
    exact ⟨_, rfl, HS2.out, HG2.out⟩
  · have t0 : (d == 0) = false := by simp [h0]
    clear h0
    go_wp2_with fail
    refine (next_any _ _ _ HS1.out (by omega)).mono ?_
    rintro e w2 ⟨z, rfl, hz0, hz1, -, hs2, g2⟩
    have hz2 : z < 8 := hz1 (by omega)
    have HS2 := Lib.hid hs2; have HG2 := Lib.hid (grown_trans HG1.out g2)
    clear hs2 g2 hz1
    go_wp2_with fail
    go_ret
    exact ⟨_, rfl, HS2.out, HG2.out⟩
end Go.Proofs.Ytbbodgeoenjdkaa
