/-
  Chapter 12: the model draws slot tables.
  Chapter 12: the model draws also what is no slot table.
  Chapter 12: the draws of its laws.
-/
import Derived.Test.YtpedlofckbplmaaSlB
import Derived.Test.YtpedlofckbplmaaDA
import Derived.Test.YtpedlofckbplmaaSlR
import Derived.Test.YtpedlofckbplmaaDrawA
namespace Go.Proofs.Ytpedlofckbplmaa
section
open Go.RowKit

/-- What drawn entries are like. -/
def drS (t : List Sl) : Prop := ∀ x ∈ t, (0 ≤ x.mode ∧ x.mode ≤ 15) ∧ (0 ≤ x.round ∧ x.round ≤ 15) ∧ (0 ≤ x.slot ∧ x.slot ≤ 15) ∧ descIn x.desc
theorem drS.in_ {t : List Sl} (h : drS t) : ∀ x ∈ t, slIn x := fun x hx => ⟨(h x hx).1, (h x hx).2.1, (h x hx).2.2.2⟩
/-- A draw of a table: of old memory only the source has been written. -/
def DrawnS (Q : List Sl → Prop) (w : World) (p : Nat) (e : Ending) (w' : World) : Prop :=
  ∃ v t, e = .returned v ∧ OwnE 93 w' w.heap.size v t ∧ Q t ∧ Src 107 w' p ∧ w.grownBy w' (some p)
/-- Among the loops. -/
structure DrL (w wr : World) (p : Nat) (V : Value) (t : List Sl) : Prop where
  own : OwnE 93 wr w.heap.size V t
  src : Src 107 wr p
  grown : w.grownBy wr (some p)
  in_ : drS t
theorem DrL.next {w wr w' : World} {p : Nat} {V : Value} {t : List Sl} (h : DrL w wr p V t) (hp : p < w.heap.size) (hs : Src 107 w' p) (g : wr.grownBy w' (some p)) : DrL w w' p V t :=
  ⟨h.own.old g hp, hs, grown_trans h.grown g, h.in_⟩
theorem DrL.push {w wr w' : World} {p : Nat} {V v' : Value} {t : List Sl} {y : Sl} (h : DrL w wr p V t) (hp : p < w.heap.size) (o : OwnE 93 w' w.heap.size v' (t ++ [y])) (b : Below w.heap.size wr w') (hy : (0 ≤ y.mode ∧ y.mode ≤ 15) ∧ (0 ≤ y.round ∧ y.round ≤ 15) ∧ (0 ≤ y.slot ∧ y.slot ≤ 15) ∧ descIn y.desc) : DrL w w' p v' (t ++ [y]) :=
  ⟨o, h.src.belowB b hp, grown_step h.grown b (Nat.le_refl _), fun x hx => by
    rcases List.mem_append.1 hx with hx | hx
    · exact h.in_ x hx
    · rw [List.mem_singleton] at hx; subst hx; exact hy⟩
set_option maxHeartbeats 4000000 in
set_option maxRecDepth 100000 in
theorem l12Draw_any (p : Nat) (w : World) (hs : Src 107 w p) : Calls Try.prog 84 #[.pointer (some ⟨p, 0, none⟩)] w (DrawnS (fun t => t.length ≤ 12 ∧ drS t) w p) := by
  have hp := hs.lt
  have hb0 : Below w.heap.size w (w.alloc (.cells #[] 93)) := (Below.refl _ _).alloc (Nat.le_refl _) _
  have HL0 := Lib.hid (show DrL w (w.alloc (.cells #[] 93)) p (.slice (some ⟨w.heap.size, 0, none⟩) 0 0) [] from ⟨OwnE.of_alloc_nil (Nat.le_refl _), hs.below hb0, grown_of_below hb0, fun x h => by cases h⟩)
  clear hb0 hs
  go_enter Try.func84, Try.ntmps84
  go_wp2_with fail
  go_loopw [3, 4] (fun V I wr => ∃ (m : Nat) (t : List Sl), I = .int .i64 (m : Int) ∧ m ≤ 2 ∧ t.length ≤ 6 * m ∧ DrL w wr p V t) (fun _ I _ => 2 - (intOf I).toNat)
  case atStart => exact ⟨0, [], rfl, by omega, by simp, HL0.out⟩
  case round =>
    clear HL0
    obtain ⟨m, t, rfl, hm, hl, hd⟩ := hrel
    have HD := Lib.hid hd; clear hd
    by_cases hm2 : m < 2
    · have hmi : (m : Int) < 2 := by omega
      go_wp2_with fail
      go_loopw [3, 5] (fun V I wr => ∃ (r : Nat) (t : List Sl), I = .int .i64 (r : Int) ∧ r ≤ 2 ∧ t.length ≤ 6 * m + 3 * r ∧ DrL w wr p V t) (fun _ I _ => 2 - (intOf I).toNat)
      case atStart => exact ⟨0, t, rfl, by omega, by omega, HD.out⟩
      case round =>
        clear HD hl
        obtain ⟨r, t, rfl, hr, hl, hd⟩ := hrel
        have HD := Lib.hid hd; clear hd
        by_cases hr2 : r < 2
        · have hri : (r : Int) < 2 := by omega
          go_wp2_with fail
          go_loopw [3, 6] (fun V I wr => ∃ (s : Nat) (t : List Sl), I = .int .i64 (s : Int) ∧ s ≤ 3 ∧ t.length ≤ 6 * m + 3 * r + s ∧ DrL w wr p V t) (fun _ I _ => 3 - (intOf I).toNat)
          case atStart => exact ⟨0, t, rfl, by omega, by omega, HD.out⟩
          case round =>
            clear HD hl
            obtain ⟨s, t, rfl, hsl, hl, hd⟩ := hrel
            have HD := Lib.hid hd; clear hd
            by_cases hs3 : s < 3
            · have hsi : (s : Int) < 3 := by omega
              go_wp2_with fail
              refine (next_any _ _ _ HD.out.src (by omega)).mono ?_
              rintro e w1 ⟨d, rfl, hd0, -, -, hs1, g1⟩
              have HD1 := Lib.hid (HD.out.next hp hs1 g1); clear hs1 g1 HD
              by_cases hdp : 0 < d
              · go_wp2_with fail
                refine (l08Draw_any _ _ HD1.out.src).mono ?_
                rintro e w2 ⟨n, a, z, u, c, rfl, hok, hs2, g2⟩
                have HD2 := Lib.hid (HD1.out.next hp hs2 g2); clear hs2 g2 HD1
                have HOK := Lib.hid (drawn_in hok (n := n) (c := c)); clear hok
                have HW := Lib.hid HD2.out.grown.size
                have HT := Lib.hid (show t.length ≤ 12 from by omega)
                have HL := Lib.hid (show t.length + 1 ≤ 6 * m + 3 * r + (s + 1) from by omega)
                have HS1 := Lib.hid (show s + 1 ≤ 3 from by omega)
                have HR := Lib.hid (show ((0 : Int) ≤ (m : Int) ∧ (m : Int) ≤ 15) ∧ ((0 : Int) ≤ (r : Int) ∧ (r : Int) ≤ 15) ∧ ((0 : Int) ≤ (s : Int) ∧ (s : Int) ≤ 15) from by omega)
                have HY := Lib.hid (SlBk.new (T := 93) (x := ⟨(m : Int), (r : Int), (s : Int), ⟨n, a, z, u, c⟩⟩) w2)
                clear hl
                go_wp2_with (at_builtin; refine append_sl _ rfl (.tmp 23) (.tmp 30) rfl w.heap.size Try.underlying47 infoSl _ t rfl (HD2.out.own.below ((Below.refl _ _).alloc (Nat.le_refl _) _)) w2.heap.size 0 ⟨(m : Int), (r : Int), (s : Int), ⟨n, a, z, u, c⟩⟩ 1 rfl HY.out.in_ (by have := HT.out; omega) (by have := HW.out; simp; omega) ?_; intro v6 w6 o6 b6)
                have HD3 := Lib.hid (HD2.out.push hp o6 (((Below.refl _ _).alloc HW.out _).trans b6) ⟨HR.out.1, HR.out.2.1, HR.out.2.2, HOK.out⟩)
                clear o6 b6 HD2 HY
                go_wp2_with fail
                go_roundw
                case rel => exact ⟨s + 1, t ++ [(⟨(m : Int), (r : Int), (s : Int), ⟨n, a, z, u, c⟩⟩ : Sl)], by go_num, HS1.out, by rw [List.length_append, List.length_singleton]; exact HL.out, HD3.out⟩
                case measure => simp [intOf]; omega
              · have hdn : ¬ d > 0 := hdp
                go_wp2_with fail
                go_roundw
                case rel => exact ⟨s + 1, t, by go_num, by omega, by omega, HD1.out⟩
                case measure => simp [intOf]; omega
            · have hsi : ¬ (s : Int) < 3 := by omega
              go_wp2_with fail
              go_roundw
              case rel => exact ⟨r + 1, t, by go_num, by omega, by omega, HD.out⟩
              case measure => simp [intOf]; omega
        · have hri : ¬ (r : Int) < 2 := by omega
          go_wp2_with fail
          go_roundw
          case rel => exact ⟨m + 1, t, by go_num, by omega, by omega, HD.out⟩
          case measure => simp [intOf]; omega
    · have hmi : ¬ (m : Int) < 2 := by omega
      have hl12 : t.length ≤ 12 := by omega
      go_wp2_with fail
      go_ret
      exact ⟨_, t, rfl, HD.out.own, ⟨hl12, HD.out.in_⟩, HD.out.src, HD.out.grown⟩
end

section
open Go.RowKit

/-- The five cells of an entry's descriptor set. -/
def setDs (w : World) (b off : Nat) (d : Ds) : World := ((((w.setCell ⟨b, off, none⟩ (.int .i64 d.node)).setCell ⟨b, off + 1, none⟩ (.int .i64 d.kind)).setCell ⟨b, off + 2, none⟩ (.int .i64 d.size)).setCell ⟨b, off + 3, none⟩ (.int .i64 d.dur)).setCell ⟨b, off + 4, none⟩ (.bool d.chg)
theorem OwnE.storeD {E base g n cap k : Nat} {w : World} {t : List Sl} {z : Sl} (ho : OwnE E w base (.slice (some ⟨g, 0, none⟩) n cap) t) (hl : t.length = n) (hk : k < n) (hz : slOf t k = z) (d : Ds) :
    OwnE E (setDs w g (k * 8 + 3) d) base (.slice (some ⟨g, 0, none⟩) n cap) (t.set k ⟨z.mode, z.round, z.slot, d⟩) ∧ Below base w (setDs w g (k * 8 + 3) d) := by
  have hkt : k < t.length := by omega
  obtain ⟨-, o3, b3⟩ := ho.field (j := 3) (u := .int .i64 d.node) (y := ⟨z.mode, z.round, z.slot, ⟨d.node, z.desc.kind, z.desc.size, z.desc.dur, z.desc.chg⟩⟩) hl hk (by omega) (by rw [hz]; rfl)
  obtain ⟨-, o4, b4⟩ := o3.field (j := 4) (u := .int .i64 d.kind) (y := ⟨z.mode, z.round, z.slot, ⟨d.node, d.kind, z.desc.size, z.desc.dur, z.desc.chg⟩⟩) (by rw [List.length_set]; exact hl) hk (by omega) (by rw [slOf_set hkt]; rfl)
  rw [List.set_set] at o4
  obtain ⟨-, o5, b5⟩ := o4.field (j := 5) (u := .int .i64 d.size) (y := ⟨z.mode, z.round, z.slot, ⟨d.node, d.kind, d.size, z.desc.dur, z.desc.chg⟩⟩) (by rw [List.length_set]; exact hl) hk (by omega) (by rw [slOf_set hkt]; rfl)
  rw [List.set_set] at o5
  obtain ⟨-, o6, b6⟩ := o5.field (j := 6) (u := .int .i64 d.dur) (y := ⟨z.mode, z.round, z.slot, ⟨d.node, d.kind, d.size, d.dur, z.desc.chg⟩⟩) (by rw [List.length_set]; exact hl) hk (by omega) (by rw [slOf_set hkt]; rfl)
  rw [List.set_set] at o6
  obtain ⟨-, o7, b7⟩ := o6.field (j := 7) (u := .bool d.chg) (y := ⟨z.mode, z.round, z.slot, d⟩) (by rw [List.length_set]; exact hl) hk (by omega) (by rw [slOf_set hkt]; rfl)
  rw [List.set_set] at o7
  exact ⟨o7, (((b3.trans b4).trans b5).trans b6).trans b7⟩
theorem three_int {cs : Array Value} {a b c : Int} (h : cs = #[.int .i64 a, .int .i64 b, .int .i64 c]) {z : Nat} (hz : z < 3) : ∃ v : Int, cs[z]? = some (.int .i64 v) := by
  subst h
  match z, hz with
  | 0, _ => exact ⟨_, rfl⟩
  | 1, _ => exact ⟨_, rfl⟩
  | 2, _ => exact ⟨_, rfl⟩
section
variable {P : Program} {E T : Nat} (w : World) {ops : Array Oper} {rest : List Oper} {o : Oper} {a : Act} {Q : Exit → Act → World → Prop}
theorem append_slg (hgd : o.guard = none) (s x : Operand)
    (ho : o.op = .call { callee := .builtin .append, args := #[s, x], argTypes := #[T, T] })
    (base : Nat) (ht : P.underlying T = some (.slice E)) (hi : InfoSl P E)
    (v : Value) (t : List Sl) (hs : a.eval s = v) (hown : OwnE E w base v t) (b off : Nat) (y : Sl) (c : Nat) (hx : a.eval x = .slice (some ⟨b, off, none⟩) 1 c) (hc : SlIn w b off y)
    (hlen : t.length ≤ 1073741824) (hbase : base ≤ w.heap.size)
    (h : ∀ v' w', OwnE E w' base v' (t ++ [y]) → w.grownBy w' v.ownBlock → wpList P ops Q rest (a.put o.dst v') w') : wpList P ops Q (o :: rest) a w :=
  wpList_plain hgd fun _ hK => app_sl w s x ho base ht hi v t hs hown b off y c hx hc hlen hbase fun v' w' h1 h2 => hK _ _ (h v' w' h1 h2)
end
/-- A draw of any table. -/
def anyS (t : List Sl) : Prop := t.length ≤ 121
/-- In the loop that makes a long table. -/
structure DrF (w wr : World) (p J : Nat) (V : Value) (t : List Sl) (n a z u : Int) (c : Bool) : Prop where
  own : OwnE 93 wr w.heap.size V t
  src : Src 107 wr p
  grown : w.grownBy wr (some p)
  box : DescAt 91 wr J n a z u c
  lo : w.heap.size ≤ J
section
variable {w wr w' : World} {p J : Nat} {V v' : Value} {t : List Sl} {y : Sl} {n a z u : Int} {c : Bool}
theorem DrF.next (h : DrF w wr p J V t n a z u c) (hp : p < w.heap.size) (hs : Src 107 w' p) (g : wr.grownBy w' (some p)) : DrF w w' p J V t n a z u c :=
  have hl := h.lo
  ⟨h.own.old g hp, hs, grown_trans h.grown g, h.box.grown g (by simp; omega), h.lo⟩
theorem DrF.push {w2 : World} (h : DrF w wr p J V t n a z u c) (hp : p < w.heap.size) (hb : Below wr.heap.size wr w2) (g : w2.grownBy w' V.ownBlock) (o : OwnE 93 w' w.heap.size v' (t ++ [y])) : DrF w w' p J v' (t ++ [y]) n a z u c :=
  have h2 := h.own.below hb
  have x2 := h.box.below hb h.box.lt
  have b : Below w.heap.size wr w' := (hb.mono h.grown.size).trans ((Below.refl _ _).grown g (Nat.le_trans h.grown.size hb.size) fun k hk => (h2.block k hk).1)
  ⟨o, h.src.belowB b hp, grown_step h.grown b (Nat.le_refl _), x2.grown g (ownsRow_ne h2 x2 (by decide)), h.lo⟩
end
set_option maxHeartbeats 8000000 in
set_option maxRecDepth 100000 in
theorem l12DrawAny_any (p : Nat) (w : World) (hs : Src 107 w p) : Calls Try.prog 81 #[.pointer (some ⟨p, 0, none⟩)] w (DrawnS anyS w p) := by
  have hp := hs.lt
  have HC := Lib.hid (l12Draw_any p w hs); clear hs
  go_enter Try.func81, Try.ntmps81
  go_wp2_with fail
  refine HC.out.mono ?_
  rintro e w1 ⟨v, t, rfl, o1, ⟨hl2, hdr⟩, hs1, g1⟩
  clear hdr HC
  obtain ⟨ao, cap, rfl, r1, hcap, hmax, hcase⟩ := o1.form
  rcases Nat.eq_zero_or_pos t.length with hz | hl1
  · obtain rfl : t = [] := List.eq_nil_of_length_eq_zero hz
    have HO1 := Lib.hid o1; have HS1 := Lib.hid hs1; have HG1 := Lib.hid g1
    clear o1 hs1 g1 r1 hcase hmax hz hl2 hcap
    simp only [List.length_nil] at HO1 ⊢
    go_wp2_with fail
    go_ret
    exact ⟨_, [], rfl, HO1.out, by unfold anyS; simp, HS1.out, HG1.out⟩
  have hg : ∃ g, ao = some ⟨g, 0, none⟩ := by
    rcases hcase with h | ⟨g, h, -⟩
    · simp only [Value.slice.injEq] at h; omega
    · exact ⟨g, h⟩
  obtain ⟨g, rfl⟩ := hg
  obtain ⟨n, hn⟩ : ∃ n, n = t.length := ⟨_, rfl⟩
  rw [← hn] at o1 hl1 hl2 hcap ⊢
  have hcm : cap ≤ 9223372036854775807 := by unfold maxLen at hmax; omega
  have HN := Lib.hid hn; have HAny := Lib.hid (show anyS t from by unfold anyS; omega)
  have HO1 := Lib.hid o1; have HS1 := Lib.hid hs1; have HG1 := Lib.hid g1
  clear o1 hs1 g1 r1 hcase hmax hn
  have hnz : ((n : Int) == 0) = false := by simp; omega
  go_wp2_with fail
  refine (next_any _ _ _ HS1.out (by omega)).mono ?_
  rintro e w2 ⟨k, rfl, hk0, hk1, hk2, hs2, g2⟩
  obtain ⟨k, rfl⟩ := Int.eq_ofNat_of_zero_le hk0
  have hkn : k < n := by
    by_cases h : 1 < (n : Int)
    · have := hk1 h; omega
    · have := hk2 (by omega); omega
  have HO2 := Lib.hid (HO1.out.old g2 hp); have HS2 := Lib.hid hs2; have HG2 := Lib.hid (grown_trans HG1.out g2)
  clear hk0 hk1 hk2 hs2 g2 HO1 HS1 HG1 hnz
  go_wp2_with fail
  refine (next_any _ _ _ HS2.out (by omega)).mono ?_
  rintro e w3 ⟨y, rfl, hy0, -, -, hs3, g3⟩
  have HO3 := Lib.hid (HO2.out.old g3 hp); have HS3 := Lib.hid hs3; have HG3 := Lib.hid (grown_trans HG2.out g3)
  clear hs3 g3 HO2 HS2 HG2
  have hkni : (k : Int) < (n : Int) := by omega
  have hkc : (k : Int) < (cap : Int) := by omega
  have hk0 : (0 : Int) ≤ (k : Int) := by omega
  have hkt : k < t.length := by rw [← HN.out]; exact hkn
  by_cases h0 : y = 0
  · subst h0
    have hbl : Below w3.heap.size w3 (w3.alloc (.cells #[.int .i64 (-1), .int .i64 15, .int .i64 16] 2)) := (Below.refl _ _).alloc (Nat.le_refl _) _
    have HSB := Lib.hid (HS3.out.below hbl); have HOB := Lib.hid (HO3.out.below hbl); have HGB := Lib.hid (grown_trans HG3.out (grown_of_below hbl))
    have hp3 : p < w3.heap.size := HS3.out.lt
    have HP3 := Lib.hid hp3; clear hbl hp3 HS3 HO3 HG3
    go_wp2_with fail
    refine (next_any _ _ _ HSB.out (by omega)).mono ?_
    rintro e w4 ⟨z, rfl, hz0, hz1, -, hs4, g4⟩
    have hz2 : z < 3 := hz1 (by omega)
    obtain ⟨z, rfl⟩ := Int.eq_ofNat_of_zero_le hz0
    have hz3 : z < 3 := by omega
    obtain ⟨u, hu⟩ := three_int (cs := #[.int .i64 (-1), .int .i64 15, .int .i64 16]) rfl hz3
    have hcell : w4.cell? ⟨w3.heap.size, z, none⟩ = some (.int .i64 u) := (table_cell g4 HP3.out z).trans hu
    have HO4 := Lib.hid (HOB.out.old g4 hp); have HS4 := Lib.hid hs4; have HG4 := Lib.hid (grown_trans HGB.out g4)
    clear hz1 hs4 g4 HOB HSB HGB hu hz3
    have hin := HO4.out.in_ HN.out.symm hkn
    generalize hxe : slOf t k = x at hin
    obtain ⟨c0, c1, c2, -⟩ := hin
    obtain ⟨f0, o5, b5⟩ := HO4.out.field (j := 0) (u := .int .i64 u) (y := ⟨u, x.round, x.slot, x.desc⟩) HN.out.symm hkn (by omega) (by rw [hxe]; rfl)
    have HO5 := Lib.hid o5
    have HS5 := Lib.hid (HS4.out.belowB b5 hp); have HG5 := Lib.hid (grown_step HG4.out b5 (Nat.le_refl _))
    have HA5 := Lib.hid (show anyS (t.set k ⟨u, x.round, x.slot, x.desc⟩) from by unfold anyS; rw [List.length_set]; exact HAny.out)
    clear o5 b5 hxe HS4 HG4
    simp only [Nat.add_zero] at f0 HO5 HS5 HG5
    go_wp2_with fail
    go_ret
    exact ⟨_, _, rfl, HO5.out, HA5.out, HS5.out, HG5.out⟩
  have t0 : (y == 0) = false := by simp [h0]
  clear h0
  by_cases h1 : y = 1
  · subst h1
    have hbl : Below w3.heap.size w3 (w3.alloc (.cells #[.int .i64 (-1), .int .i64 7, .int .i64 8] 2)) := (Below.refl _ _).alloc (Nat.le_refl _) _
    have HSB := Lib.hid (HS3.out.below hbl); have HOB := Lib.hid (HO3.out.below hbl); have HGB := Lib.hid (grown_trans HG3.out (grown_of_below hbl))
    have hp3 : p < w3.heap.size := HS3.out.lt
    have HP3 := Lib.hid hp3; clear hbl hp3 HS3 HO3 HG3
    go_wp2_with fail
    refine (next_any _ _ _ HSB.out (by omega)).mono ?_
    rintro e w4 ⟨z, rfl, hz0, hz1, -, hs4, g4⟩
    have hz2 : z < 3 := hz1 (by omega)
    obtain ⟨z, rfl⟩ := Int.eq_ofNat_of_zero_le hz0
    have hz3 : z < 3 := by omega
    obtain ⟨u, hu⟩ := three_int (cs := #[.int .i64 (-1), .int .i64 7, .int .i64 8]) rfl hz3
    have hcell : w4.cell? ⟨w3.heap.size, z, none⟩ = some (.int .i64 u) := (table_cell g4 HP3.out z).trans hu
    have HO4 := Lib.hid (HOB.out.old g4 hp); have HS4 := Lib.hid hs4; have HG4 := Lib.hid (grown_trans HGB.out g4)
    clear hz1 hs4 g4 HOB HSB HGB hu hz3
    have hin := HO4.out.in_ HN.out.symm hkn
    generalize hxe : slOf t k = x at hin
    obtain ⟨c0, c1, c2, -⟩ := hin
    obtain ⟨f0, o5, b5⟩ := HO4.out.field (j := 1) (u := .int .i64 u) (y := ⟨x.mode, u, x.slot, x.desc⟩) HN.out.symm hkn (by omega) (by rw [hxe]; rfl)
    have HO5 := Lib.hid o5
    have HS5 := Lib.hid (HS4.out.belowB b5 hp); have HG5 := Lib.hid (grown_step HG4.out b5 (Nat.le_refl _))
    have HA5 := Lib.hid (show anyS (t.set k ⟨x.mode, u, x.slot, x.desc⟩) from by unfold anyS; rw [List.length_set]; exact HAny.out)
    clear o5 b5 hxe HS4 HG4
    go_wp2_with fail
    go_ret
    exact ⟨_, _, rfl, HO5.out, HA5.out, HS5.out, HG5.out⟩
  have t1 : (y == 1) = false := by simp [h1]
  clear h1
  by_cases h2 : y = 2
  · subst h2
    have hbl : Below w3.heap.size w3 (w3.alloc (.cells #[.int .i64 (-1), .int .i64 15, .int .i64 16] 2)) := (Below.refl _ _).alloc (Nat.le_refl _) _
    have HSB := Lib.hid (HS3.out.below hbl); have HOB := Lib.hid (HO3.out.below hbl); have HGB := Lib.hid (grown_trans HG3.out (grown_of_below hbl))
    have hp3 : p < w3.heap.size := HS3.out.lt
    have HP3 := Lib.hid hp3; clear hbl hp3 HS3 HO3 HG3
    go_wp2_with fail
    refine (next_any _ _ _ HSB.out (by omega)).mono ?_
    rintro e w4 ⟨z, rfl, hz0, hz1, -, hs4, g4⟩
    have hz2 : z < 3 := hz1 (by omega)
    obtain ⟨z, rfl⟩ := Int.eq_ofNat_of_zero_le hz0
    have hz3 : z < 3 := by omega
    obtain ⟨u, hu⟩ := three_int (cs := #[.int .i64 (-1), .int .i64 15, .int .i64 16]) rfl hz3
    have hcell : w4.cell? ⟨w3.heap.size, z, none⟩ = some (.int .i64 u) := (table_cell g4 HP3.out z).trans hu
    have HO4 := Lib.hid (HOB.out.old g4 hp); have HS4 := Lib.hid hs4; have HG4 := Lib.hid (grown_trans HGB.out g4)
    clear hz1 hs4 g4 HOB HSB HGB hu hz3
    have hin := HO4.out.in_ HN.out.symm hkn
    generalize hxe : slOf t k = x at hin
    obtain ⟨c0, c1, c2, -⟩ := hin
    obtain ⟨f0, o5, b5⟩ := HO4.out.field (j := 2) (u := .int .i64 u) (y := ⟨x.mode, x.round, u, x.desc⟩) HN.out.symm hkn (by omega) (by rw [hxe]; rfl)
    have HO5 := Lib.hid o5
    have HS5 := Lib.hid (HS4.out.belowB b5 hp); have HG5 := Lib.hid (grown_step HG4.out b5 (Nat.le_refl _))
    have HA5 := Lib.hid (show anyS (t.set k ⟨x.mode, x.round, u, x.desc⟩) from by unfold anyS; rw [List.length_set]; exact HAny.out)
    clear o5 b5 hxe HS4 HG4
    go_wp2_with fail
    go_ret
    exact ⟨_, _, rfl, HO5.out, HA5.out, HS5.out, HG5.out⟩
  have t2 : (y == 2) = false := by simp [h2]
  clear h2
  by_cases h3 : y = 3
  · subst h3
    go_wp2_with fail
    refine (l08DrawAny_any _ _ HS3.out).mono ?_
    rintro e w4 ⟨q0, q1, q2, q3, q4, rfl, hs4, g4⟩
    have HO4 := Lib.hid (HO3.out.old g4 hp); have HS4 := Lib.hid hs4; have HG4 := Lib.hid (grown_trans HG3.out g4)
    clear hs4 g4 HO3 HS3 HG3
    have hin := HO4.out.in_ HN.out.symm hkn
    have hfz := (HO4.out.store HN.out.symm hkn Sl.zero).2.1
    generalize hxe : slOf t k = x at hin
    obtain ⟨-, -, -, c3, c4, c5, c6, c7⟩ := hin
    obtain ⟨o5, b5⟩ := HO4.out.storeD HN.out.symm hkn hxe ⟨q0, q1, q2, q3, q4⟩
    have d4 : w4.cell? ⟨g, k * 8 + 3 + 1, none⟩ = some (.int .i64 x.desc.kind) := c4
    have d5 : w4.cell? ⟨g, k * 8 + 3 + 2, none⟩ = some (.int .i64 x.desc.size) := c5
    have d6 : w4.cell? ⟨g, k * 8 + 3 + 3, none⟩ = some (.int .i64 x.desc.dur) := c6
    have d7 : w4.cell? ⟨g, k * 8 + 3 + 4, none⟩ = some (.bool x.desc.chg) := c7
    have HO5 := Lib.hid o5
    have HS5 := Lib.hid (HS4.out.belowB b5 hp); have HG5 := Lib.hid (grown_step HG4.out b5 (Nat.le_refl _))
    have HA5 := Lib.hid (show anyS (t.set k ⟨x.mode, x.round, x.slot, ⟨q0, q1, q2, q3, q4⟩⟩) from by unfold anyS; rw [List.length_set]; exact HAny.out)
    clear o5 b5 hxe HS4 HG4
    unfold setDs at HO5 HS5 HG5
    dsimp only at HO5 HS5 HG5
    go_wp2_with fail
    go_ret
    exact ⟨_, _, rfl, HO5.out, HA5.out, HS5.out, HG5.out⟩
  have t3 : (y == 3) = false := by simp [h3]
  clear h3
  by_cases h4 : y = 4
  · subst h4
    have hin := HO3.out.in_ HN.out.symm hkn
    generalize hxe : slOf t k = x at hin
    obtain ⟨c0, c1, c2, c3, c4, c5, c6, c7⟩ := hin
    have HX := Lib.hid (SlBk.new (T := 93) (x := x) w3)
    have HAP := Lib.hid (show anyS (t ++ [x]) from by unfold anyS; rw [List.length_append, List.length_singleton, ← HN.out]; omega)
    have htl : t.length ≤ 12 := by rw [← HN.out]; omega
    have hsz := HG3.out.size
    clear hxe
    go_wp2_with (at_builtin; refine append_sl _ rfl (.tmp 62) (.tmp 67) rfl w.heap.size Try.underlying47 infoSl _ t rfl (HO3.out.below ((Below.refl _ _).alloc (Nat.le_refl _) _)) w3.heap.size 0 x 1 rfl HX.out.in_ (by omega) (by simp; omega) ?_; intro v6 w6 o6 b6)
    have hb6 : Below w.heap.size w3 w6 := ((Below.refl _ _).alloc hsz _).trans b6
    have HO6 := Lib.hid o6; have HS6 := Lib.hid (HS3.out.belowB hb6 hp); have HG6 := Lib.hid (grown_step HG3.out hb6 (Nat.le_refl _))
    clear o6 b6 hb6 c0 c1 c2 c3 c4 c5 c6 c7
    go_wp2_with fail
    go_ret
    exact ⟨_, _, rfl, HO6.out, HAP.out, HS6.out, HG6.out⟩
  have t4 : (y == 4) = false := by simp [h4]
  clear h4
  by_cases h5 : y = 5
  · subst h5
    have hbl : Below w3.heap.size w3 (w3.alloc (.cells #[] 93)) := (Below.refl _ _).alloc (Nat.le_refl _) _
    have HSB := Lib.hid (HS3.out.below hbl); have HGB := Lib.hid (grown_trans HG3.out (grown_of_below hbl))
    have HOB := Lib.hid (show OwnE 93 (w3.alloc (.cells #[] 93)) w.heap.size (.slice (some ⟨w3.heap.size, 0, none⟩) 0 0) [] from OwnE.of_alloc_nil HG3.out.size)
    clear hbl HS3 HO3 HG3 hkni hkc hk0 hkt HN HAny t0 t1 t2 t3 t4
    go_wp2_with fail
    refine (l08Draw_any _ _ HSB.out).mono ?_
    rintro e w4 ⟨q0, q1, q2, q3, q4, rfl, -, hs4, g4⟩
    have hb4 : Below w4.heap.size w4 (w4.alloc (.cells #[.int .i64 q0, .int .i64 q1, .int .i64 q2, .int .i64 q3, .bool q4] 91)) := (Below.refl _ _).alloc (Nat.le_refl _) _
    have HD := Lib.hid (show DrF w (w4.alloc (.cells #[.int .i64 q0, .int .i64 q1, .int .i64 q2, .int .i64 q3, .bool q4] 91)) p w4.heap.size (.slice (some ⟨w3.heap.size, 0, none⟩) 0 0) [] q0 q1 q2 q3 q4 from
      ⟨(HOB.out.old g4 hp).below hb4, hs4.below hb4, grown_trans (grown_trans HGB.out g4) (grown_of_below hb4), DescAt.new w4, (grown_trans HGB.out g4).size⟩)
    clear hb4 hs4 g4 HSB HGB HOB
    go_upto_region 19 with fail
    generalize w4.heap.size = J at HD ⊢
    generalize w4.alloc (.cells #[.int .i64 q0, .int .i64 q1, .int .i64 q2, .int .i64 q3, .bool q4] 91) = w5 at HD ⊢
    go_wp2_with fail
    go_loopw [3, 6] (fun V I wr => ∃ (i : Nat) (t : List Sl), I = .int .i64 (i : Int) ∧ i ≤ 121 ∧ t.length = i ∧ DrF w wr p J V t q0 q1 q2 q3 q4) (fun _ I _ => 121 - (intOf I).toNat)
    case atStart => exact ⟨0, [], rfl, by omega, rfl, HD.out⟩
    case round =>
      clear HD
      obtain ⟨i, t, rfl, hi, hl, hd⟩ := hrel
      have HD := Lib.hid hd; clear hd
      go_wp2_with fail
      refine (next_any _ _ _ HD.out.src (by omega)).mono ?_
      rintro e w6 ⟨d, rfl, hd0, hd1, -, hs6, g6⟩
      have hd2 : d < 2 := hd1 (by omega)
      have HD6 := Lib.hid (HD.out.next hp hs6 g6); clear hs6 g6 HD hd1
      obtain ⟨d, rfl⟩ := Int.eq_ofNat_of_zero_le hd0
      by_cases hid : i < 120 + d
      · have hidi : (i : Int) < 120 + (d : Int) := by omega
        obtain ⟨e0, e1, e2, e3, e4⟩ := desc_cells HD6.out.box
        have hlt := HD6.out.box.lt
        have HX := Lib.hid (SlBk.new (T := 93) (x := ⟨Int.tdiv (i : Int) 16, 0, Int.tmod (i : Int) 16, ⟨q0, q1, q2, q3, q4⟩⟩) w6)
        have hb6 : Below w6.heap.size w6 (w6.alloc (.cells #[.int .i64 (Int.tdiv (i : Int) 16), .int .i64 0, .int .i64 (Int.tmod (i : Int) 16), .int .i64 q0, .int .i64 q1, .int .i64 q2, .int .i64 q3, .bool q4] 93)) := (Below.refl _ _).alloc (Nat.le_refl _) _
        have HB6 := Lib.hid hb6
        have hsz := HD6.out.grown.size
        have HL := Lib.hid hl; have HI := Lib.hid (show i + 1 ≤ 121 from by omega)
        have hli : t.length ≤ 121 := by omega
        clear hb6 hl
        go_wp2_with (at_builtin; refine append_slg _ rfl (.tmp 81) (.tmp 88) rfl w.heap.size Try.underlying47 infoSl _ t rfl (HD6.out.own.below HB6.out) w6.heap.size 0 ⟨Int.tdiv (i : Int) 16, 0, Int.tmod (i : Int) 16, ⟨q0, q1, q2, q3, q4⟩⟩ 1 rfl HX.out.in_ (by omega) (by simp; omega) ?_; intro v7 w7 o7 g7)
        have HD7 := Lib.hid (HD6.out.push hp HB6.out g7 o7)
        clear o7 g7 HX HB6 HD6 e0 e1 e2 e3 e4 hlt
        go_wp2_with fail
        go_roundw
        case rel => exact ⟨i + 1, _, by go_num, HI.out, by rw [List.length_append, List.length_singleton, HL.out], HD7.out⟩
        case measure => simp [intOf]; omega
      · have hidi : ¬ (i : Int) < 120 + (d : Int) := by omega
        go_wp2_with fail
        go_ret
        exact ⟨_, t, rfl, HD6.out.own, by unfold anyS; omega, HD6.out.src, HD6.out.grown⟩
  have t5 : (y == 5) = false := by simp [h5]
  clear h5
  go_wp2_with fail
  go_ret
  exact ⟨_, t, rfl, HO3.out, HAny.out, HS3.out, HG3.out⟩
end

section
open Go.RowKit

/-- A drawn table; a drawn list. -/
def DrawnST (w : World) (e : Ending) (w' : World) : Prop := ∃ v t, e = .returned v ∧ OwnE 93 w' w.heap.size v t ∧ anyS t ∧ Below w.heap.size w w'
def DrawnSK (w : World) (e : Ending) (w' : World) : Prop := ∃ v t m r s, e = .returned (.tuple #[v, .int .i64 m, .int .i64 r, .int .i64 s]) ∧ OwnE 93 w' w.heap.size v t ∧ anyS t ∧ ((0 ≤ m ∧ m < 4) ∧ (0 ≤ r ∧ r < 4) ∧ (0 ≤ s ∧ s < 4)) ∧ Below w.heap.size w w'
def DrawnSN (w : World) (e : Ending) (w' : World) : Prop := ∃ v t y, e = .returned (.tuple #[v, .int .i64 y]) ∧ OwnE 93 w' w.heap.size v t ∧ anyS t ∧ Below w.heap.size w w'
def DrawnSL (w : World) (e : Ending) (w' : World) : Prop := ∃ v xs, e = .returned v ∧ Own 2 w' w.heap.size v xs ∧ xs.length ≤ 1048576 ∧ Below w.heap.size w w'
theorem drawSlotTableBytes_any (ao : Option Addr) (n cap : Nat) (cs : List Int) (w : World) (hr : RdB w w.heap.size ao n cs) (hn : n ≤ 1048576) :
    Calls Try.prog 38 #[.slice ao n cap] w (DrawnST w) := by
  have HR := Lib.hid hr; clear hr
  go_enter Try.func38, Try.ntmps38
  go_wp2_with fail
  refine (from_any _ _ _ cs _ HR.out hn).mono ?_
  rintro e w1 ⟨p, rfl, hlo, hs1, hb1⟩
  have HS1 := Lib.hid hs1; have HB1 := Lib.hid hb1; clear hs1 hb1
  go_wp2_with fail
  refine (l12DrawAny_any p _ HS1.out).mono ?_
  rintro e w2 ⟨v, t, rfl, o2, ha, -, g2⟩
  go_wp2_with fail
  go_ret
  exact ⟨_, t, rfl, o2.more HB1.out.size, ha, HB1.out.grown g2 HB1.out.size (fun k hk => by cases hk; exact hlo)⟩
theorem Own.cut {E base g n cap : Nat} {w : World} {xs : List Int} (h : Own E w base (.slice (some ⟨g, 0, none⟩) n cap) xs) (hl : xs.length = n) {k : Nat} (hk : k ≤ n) : Own E w base (.slice (some ⟨g, 0, none⟩) k cap) (xs.take k) := by
  obtain ⟨h1, h2⟩ := h
  rcases h2 with ⟨h2, -⟩ | ⟨g', cap', cur, e, hg, hh, hn, hcap, hsz, htake⟩
  · cases h2
  · simp only [Value.slice.injEq, Option.some.injEq, Addr.mk.injEq, and_true] at e
    obtain ⟨rfl, -, rfl⟩ := e
    have hlk : (xs.take k).length = k := by rw [List.length_take]; omega
    refine ⟨by simp, .inr ⟨g, cap, cur, by rw [hlk], hg, hh, by omega, hcap, hsz, ?_⟩⟩
    rw [hlk, List.map_take, ← htake, hl, List.take_take, Nat.mul_one, Nat.mul_one, Nat.min_eq_left hk]
set_option maxHeartbeats 1000000 in
set_option maxRecDepth 100000 in
theorem drawReadSlotTable_any (ao : Option Addr) (n cap : Nat) (cs : List Int) (w : World) (hr : RdB w w.heap.size ao n cs) (hn : n ≤ 1048576) :
    Calls Try.prog 41 #[.slice ao n cap] w (DrawnSL w) := by
  have HR := Lib.hid hr; clear hr
  go_enter Try.func41, Try.ntmps41
  go_wp2_with fail
  refine (from_any _ _ _ cs _ HR.out hn).mono ?_
  rintro e w1 ⟨p, rfl, hlo, hs1, hb1⟩
  have hp1 : p < w1.heap.size := hs1.lt
  have HS1 := Lib.hid hs1; have HB1 := Lib.hid hb1; clear hs1 hb1
  go_wp2_with fail
  refine (l12Draw_any p _ HS1.out).mono ?_
  rintro e w2 ⟨v, t, rfl, o2, ⟨hl2, hdr⟩, hs2, g2⟩
  obtain ⟨a2, c2, rfl, o2, r2⟩ := o2.get
  have HS2 := Lib.hid hs2; have HB2 := Lib.hid (HB1.out.grown g2 HB1.out.size (fun k hk => by cases hk; exact hlo))
  have hp2 : p < w2.heap.size := hs2.lt
  have HB2s : w.heap.size ≤ w2.heap.size := HB2.out.size
  have hokb : (slotBytes t).length ≤ 1000 := by rw [slotBytes_len]; omega
  have hin := hdr.in_
  clear o2 hs2 g2 hdr
  go_wp2_with fail
  refine (l12Bytes_any _ _ _ t _ r2 (by omega) hin).mono ?_
  rintro e w3 m3
  obtain ⟨p3, c3, rfl, o3, -, b3⟩ := m3.get
  have hsz3 : w2.heap.size ≤ w3.heap.size := b3.size
  have hlb : (slotBytes t).length ≤ 1000000 := by omega
  have hl0 : 0 < (slotBytes t).length := by rw [slotBytes_len]; omega
  have HO3 := Lib.hid o3; have HS3 := Lib.hid (HS2.out.below b3); have HB3 := Lib.hid (below_two HB2.out b3)
  obtain ⟨L, hL⟩ : ∃ L, L = slotBytes t := ⟨_, rfl⟩
  rw [← hL] at HO3 hlb hl0 ⊢
  clear o3 b3 m3 r2 hokb hin HS2 HB2 hL
  go_wp2_with fail
  refine (drawBytes_any _ _ _ HS3.out (by omega) (by omega)).mono ?_
  rintro e w4 ⟨v4, xs, rfl, o4, hxl, hs4, g4⟩
  obtain ⟨a4, c4, rfl, o4, r4⟩ := o4.get
  have HO4 := Lib.hid (HO3.out.src g4 hp2); have HS4 := Lib.hid hs4; have HB4 := Lib.hid (HB3.out.grown g4 HB3.out.size (fun k hk => by cases hk; exact hlo))
  have hsz4 : w2.heap.size ≤ w4.heap.size := Nat.le_trans hsz3 g4.size
  clear hs4 g4 HO3 HS3 HB3 o4
  go_wp2_with (at_builtin; refine append_list _ rfl (.tmp 9) (.tmp 11) rfl w2.heap.size Try.underlying26 info64 _ L rfl HO4.out _ _ _ xs rfl r4 (by omega) hsz4 ?_; intro v5 w5 o5 b5)
  have HS5 := Lib.hid (HS4.out.belowB b5 hp2)
  have HB5 := Lib.hid (HB4.out.trans (b5.mono HB2s)); clear b5 HO4 HS4 HB4 r4
  have hXl : (L ++ xs).length ≤ 1048576 := by rw [List.length_append]; omega
  have hX0 : 0 < (L ++ xs).length := by rw [List.length_append]; omega
  obtain ⟨X, hX⟩ : ∃ X, X = L ++ xs := ⟨_, rfl⟩
  rw [← hX] at o5 hXl hX0
  obtain ⟨a5, c5, rfl, -, hc5, hm5, hcase⟩ := o5.form
  have hg : ∃ g, a5 = some ⟨g, 0, none⟩ := by
    rcases hcase with h | ⟨g, h, -⟩
    · simp only [Value.slice.injEq] at h; omega
    · exact ⟨g, h⟩
  obtain ⟨g, rfl⟩ := hg
  obtain ⟨m, hm⟩ : ∃ m, m = X.length := ⟨_, rfl⟩
  rw [← hm] at o5 hXl hX0 hc5 ⊢
  have hcm : c5 ≤ 9223372036854775807 := by unfold maxLen at hm5; omega
  have HM := Lib.hid hm; have HO5 := Lib.hid o5
  clear hm o5 hcase hm5 hX hlb hl0 hxl
  go_wp2_with fail
  refine (next_any _ _ _ HS5.out (by omega)).mono ?_
  rintro e w6 ⟨y, rfl, -, -, -, hs6, g6⟩
  have HO6 := Lib.hid (HO5.out.src g6 hp2); have HS6 := Lib.hid hs6; have HB6 := Lib.hid (HB5.out.grown g6 HB5.out.size (fun k hk => by cases hk; exact hlo)); clear hs6 g6 HO5 HS5 HB5
  by_cases h0 : y = 0
  · subst h0
    go_wp2_with fail
    refine (next_any _ _ _ HS6.out (by omega)).mono ?_
    rintro e w7 ⟨k, rfl, hk0, hk1, hk2, hs7, g7⟩
    obtain ⟨k, rfl⟩ := Int.eq_ofNat_of_zero_le hk0
    have hkm : k < m := by
      by_cases h : 1 < (m : Int)
      · have := hk1 h; omega
      · have := hk2 (by omega); omega
    have HO7 := Lib.hid (HO6.out.src g7 hp2); have HS7 := Lib.hid hs7; have HB7 := Lib.hid (HB6.out.grown g7 HB6.out.size (fun k hk => by cases hk; exact hlo)); clear hk1 hk2 hs7 g7 HO6 HS6 HB6
    go_wp2_with fail
    refine (next_any _ _ _ HS7.out (by omega)).mono ?_
    rintro e w8 ⟨z, rfl, -, -, -, hs8, g8⟩
    have HO8 := Lib.hid (HO7.out.src g8 hp2); have HB8 := Lib.hid (HB7.out.grown g8 HB7.out.size (fun k hk => by cases hk; exact hlo)); clear hs8 g8 HO7 HS7 HB7
    obtain ⟨hc8, hf8, ho9, hb9⟩ := own_store HO8.out HM.out.symm hkm z
    have HO9 := Lib.hid (ho9.more HB2s); have HB9 := Lib.hid (HB8.out.trans (hb9.mono HB2s)); clear ho9 hb9
    have hki : (k : Int) < (m : Int) := by omega
    generalize X.getD k 0 = u at hc8
    go_wp2_with fail
    go_ret
    exact ⟨_, _, rfl, HO9.out, by rw [List.length_set, ← HM.out]; omega, HB9.out⟩
  have t0 : (y == 0) = false := by simp [h0]
  clear h0
  by_cases h1 : y = 1
  · subst h1
    go_wp2_with fail
    refine (next_any _ _ _ HS6.out (by omega)).mono ?_
    rintro e w7 ⟨k, rfl, hk0, hk1, hk2, hs7, g7⟩
    obtain ⟨k, rfl⟩ := Int.eq_ofNat_of_zero_le hk0
    have hkm : k < m := by
      by_cases h : 1 < (m : Int)
      · have := hk1 h; omega
      · have := hk2 (by omega); omega
    have HO7 := Lib.hid ((HO6.out.src g7 hp2).cut HM.out.symm (Nat.le_of_lt hkm)); have HB7 := Lib.hid (HB6.out.grown g7 HB6.out.size (fun k hk => by cases hk; exact hlo)); clear hk1 hk2 hs7 g7 HO6 HS6 HB6
    have hkc : (k : Int) ≤ (c5 : Int) := by omega
    go_wp2_with fail
    go_ret
    exact ⟨_, _, rfl, HO7.out.more HB2s, by rw [List.length_take, ← HM.out]; omega, HB7.out⟩
  have t1 : (y == 1) = false := by simp [h1]
  clear h1
  go_wp2_with fail
  go_ret
  exact ⟨_, _, rfl, HO6.out.more HB2s, by rw [← HM.out]; exact hXl, HB6.out⟩
end
end Go.Proofs.Ytpedlofckbplmaa
