/-
  Chapter 12: what the program's reader takes, plainly; it is what the model's reader reads. No program is named here.
  Chapter 12: the program's reader: a descriptor, an entry.
  Chapter 12: the program's reader: an entry.
  Chapter 12: the program's reader of tables, which recovers; impl.ReadSlotTable.
-/
import Derived.Test.YtpedlofckbplmaaSl1
import Derived.Test.YtpedlofckbplmaaSw
import Derived.Test.YtpedlofckbplmaaRdT
import Derived.Test.YtpedlofckbplmaaEigB
import Derived.Test.YtpedlofckbplmaaBase
import Derived.Test.YtpedlofckbplmaaSlA
import Derived.Laws.Pointers
import Derived.BigQuiet
namespace Go.Proofs.Ytpedlofckbplmaa
section

/-- An entry taken from the front, and what is left. -/
def pSl (ys : List Int) : Option (Sl × List Int) :=
  if ys.length < 7 then none else
    if (descFrom ((ys.drop 2).take 5)).2 = 0 then some (⟨ys.getD 0 0 / 16, ys.getD 0 0 % 16, ys.getD 1 0, (descFrom ((ys.drop 2).take 5)).1⟩, ys.drop 7) else none
def pSls (ys : List Int) : Nat → Option (List Sl × List Int)
  | 0 => some ([], ys)
  | k + 1 => (pSls ys k).bind fun p => (pSl p.2).map fun q => (p.1 ++ [q.1], q.2)
def pSlots (xs : List Int) : Option (List Sl × List Int) :=
  if xs.length < 1 then none else (pSls (xs.drop 1) (xs.getD 0 0).toNat).bind fun p => if isSls p.1 = true then some p else none
theorem dropS (xs : List Int) (a i : Nat) : (xs.drop a).getD i 0 = xs.getD (a + i) 0 := by simp [List.getD, List.getElem?_drop]
theorem pSl_at (xs : List Int) (a : Nat) : match pSl (xs.drop a) with
    | none => slAt xs a = none ∨ xs.length < a + 7
    | some q => slAt xs a = some q.1 ∧ q.2 = xs.drop (a + 7) ∧ a + 7 ≤ xs.length := by
  unfold pSl slAt
  simp only [List.drop_drop, List.length_drop, dropS, Nat.add_zero]
  by_cases h1 : xs.length - a < 7
  · rw [if_pos h1]; simp only; exact .inr (by omega)
  rw [if_neg h1]
  by_cases h2 : (descFrom ((xs.drop (a + 2)).take 5)).2 = 0
  · rw [if_pos h2, if_pos h2]
    exact ⟨rfl, rfl, by omega⟩
  · rw [if_neg h2, if_neg h2]
    exact .inl rfl
theorem pSls_at (xs : List Int) (h : 1 ≤ xs.length) : ∀ k, match pSls (xs.drop 1) k with
    | none => slsTo xs k = none ∨ xs.length < 1 + 7 * k
    | some q => slsTo xs k = some q.1 ∧ q.2 = xs.drop (1 + 7 * k) ∧ 1 + 7 * k ≤ xs.length
  | 0 => ⟨rfl, rfl, h⟩
  | k + 1 => by
    have ih := pSls_at xs h k
    rw [pSls, slsTo]
    rcases hp : pSls (xs.drop 1) k with _ | ⟨t, r⟩
    · rw [hp] at ih
      simp only at ih
      rcases ih with ih | ih
      · rw [ih]; exact .inl rfl
      · exact .inr (by omega)
    · rw [hp] at ih
      simp only at ih
      obtain ⟨h1, h2, h3⟩ := ih
      rw [h1]
      simp only [Option.bind_some]
      have ha := pSl_at xs (1 + 7 * k)
      rw [← h2] at ha
      rcases hq : pSl r with _ | ⟨x, r2⟩
      · rw [hq] at ha
        simp only at ha
        rcases ha with ha | ha
        · rw [ha]; exact .inl rfl
        · exact .inr (by omega)
      · rw [hq] at ha
        simp only at ha
        obtain ⟨e1, e2, e3⟩ := ha
        rw [e1]
        exact ⟨rfl, e2, by omega⟩
theorem pSlots_eq (xs : List Int) : readSlots xs = (pSlots xs).map fun p => (p.1, xs.length - p.2.length) := by
  unfold readSlots pSlots
  by_cases h0 : xs.length = 0
  · rw [if_pos (.inl h0), if_pos (by omega)]; rfl
  rw [if_neg (show ¬ xs.length < 1 by omega)]
  have h := pSls_at xs (by omega) (xs.getD 0 0).toNat
  rcases hp : pSls (xs.drop 1) (xs.getD 0 0).toNat with _ | ⟨t, r⟩
  · rw [hp] at h
    simp only at h
    rcases h with h | h
    · by_cases h1 : xs.length < 1 + 7 * (xs.getD 0 0).toNat
      · rw [if_pos (.inr h1)]; rfl
      · rw [if_neg (fun hc => hc.elim h0 h1), h]; rfl
    · rw [if_pos (.inr h)]; rfl
  · rw [hp] at h
    simp only at h
    obtain ⟨h1, h2, h3⟩ := h
    rw [if_neg (fun hc => hc.elim h0 (fun h4 => by omega)), h1]
    simp only [Option.bind_some]
    rcases isSls t with _ | _
    · rfl
    · simp only [if_true, Option.map_some]
      rw [h2, List.length_drop]
      congr 2
      omega
theorem pSl_small {ys : List Int} {q : Sl × List Int} (h : pSl ys = some q) : q.2.length ≤ ys.length := by
  unfold pSl at h
  split at h
  · cases h
  split at h
  · cases h
    simp only [List.length_drop]
    omega
  · cases h
theorem pSls_len {ys : List Int} : ∀ {k : Nat} {t : List Sl} {r : List Int}, pSls ys k = some (t, r) → t.length = k ∧ r.length ≤ ys.length
  | 0, t, r, h => by cases h; exact ⟨rfl, Nat.le_refl _⟩
  | k + 1, t, r, h => by
    rw [pSls] at h
    obtain ⟨p, h1, h2⟩ := Option.bind_eq_some_iff.1 h
    obtain ⟨q, h3, h4⟩ := Option.map_eq_some_iff.1 h2
    obtain ⟨g1, g2⟩ := pSls_len (t := p.1) (r := p.2) h1
    have k2 := pSl_small h3
    cases h4
    exact ⟨by rw [List.length_append, g1]; rfl, by omega⟩
theorem pSls_none {ys : List Int} {k : Nat} (h : pSls ys k = none) : ∀ j, pSls ys (k + j) = none
  | 0 => h
  | j + 1 => by rw [← Nat.add_assoc, pSls, pSls_none h j]; rfl
theorem pSlots_none {xs : List Int} {k : Nat} (h0 : ¬ xs.length < 1) (h : pSls (xs.drop 1) k = none) (hk : k ≤ (xs.getD 0 0).toNat) : pSlots xs = none := by
  have h1 := pSls_none h ((xs.getD 0 0).toNat - k)
  rw [show k + ((xs.getD 0 0).toNat - k) = (xs.getD 0 0).toNat from by omega] at h1
  unfold pSlots
  rw [if_neg h0, h1]; rfl
theorem pSlots_tab {xs : List Int} {t : List Sl} {r : List Int} (h0 : ¬ xs.length < 1) (h : pSls (xs.drop 1) (xs.getD 0 0).toNat = some (t, r)) : pSlots xs = if isSls t = true then some (t, r) else none := by
  unfold pSlots
  rw [if_neg h0, h]; rfl
theorem pSlots_short {xs : List Int} (h0 : xs.length < 1) : pSlots xs = none := by unfold pSlots; rw [if_pos h0]
theorem pSlots_rest {xs : List Int} {t : List Sl} {r : List Int} (h : pSlots xs = some (t, r)) : r.length ≤ xs.length ∧ isSls t = true := by
  unfold pSlots at h
  split at h
  · cases h
  obtain ⟨p, h1, h2⟩ := Option.bind_eq_some_iff.1 h
  split at h2
  · rename_i hi
    cases h2
    have := (pSls_len h1).2
    rw [List.length_drop] at this
    exact ⟨by omega, hi⟩
  · cases h2
def fillS (t : List Sl) (n : Nat) : List Sl := t ++ List.replicate (n - t.length) Sl.zero
theorem fillS_len {t : List Sl} {n : Nat} (h : t.length ≤ n) : (fillS t n).length = n := by unfold fillS; rw [List.length_append, List.length_replicate]; omega
theorem fillS_set {t : List Sl} {n : Nat} (h : t.length < n) (x : Sl) : (fillS t n).set t.length x = fillS (t ++ [x]) n := by
  unfold fillS
  rw [List.set_append_right _ _ (Nat.le_refl _), Nat.sub_self, show n - t.length = (n - (t ++ [x]).length) + 1 from by rw [List.length_append, List.length_singleton]; omega, List.replicate_succ, List.set_cons_zero]
  simp
theorem fillS_full {t : List Sl} : fillS t t.length = t := by unfold fillS; simp
end

section
open Go.RowKit

def dsVal (d : Ds) : Value := .agg #[.int .i64 d.node, .int .i64 d.kind, .int .i64 d.size, .int .i64 d.dur, .bool d.chg]
/-- What a descriptor's reading leaves. -/
def GotDs (w : World) (p : Nat) (o : Option (Ds × List Int)) (e : Ending) (w' : World) : Prop :=
  match o with
  | some (d, r) => e = .returned (dsVal d) ∧ RdrAt w' p r ∧ w.grownBy w' (some p)
  | none => Bad w p e w'
theorem RdrAt.step {w W W' : World} {p : Nat} {r r' : List Int} (_h : RdrAt W p r) (hr : RdrAt W' p r') (g1 : w.grownBy W (some p)) (g2 : W.grownBy W' (some p)) : RdrAt W' p r' ∧ w.grownBy W' (some p) := ⟨hr, grown_trans g1 g2⟩
theorem desc_short (p : Nat) (ys : List Int) (w : World) (h : RdrAt w p ys) (hl : ys.length < 5) :
    Calls Try.prog 119 #[.pointer (some ⟨p, 0, none⟩)] w (Bad w p) := by
  have hb : Below w.heap.size w (w.alloc (.cells #[.int .i64 0, .int .i64 0, .int .i64 0, .int .i64 0, .bool false] 91)) := (Below.refl _ _).alloc (Nat.le_refl _) _
  have HC := Lib.hid (take_bad p 5 ys _ (h.below hb h.lt) hl)
  have HG := Lib.hid (grown_of_b hb (some p))
  clear h hb
  go_enter Try.func119, Try.ntmps119
  go_wp2_with fail
  refine HC.out.mono ?_
  rintro e w1 ⟨⟨u, v, rfl⟩, g1⟩
  go_wp2_with fail
  exact ⟨rfl, ⟨_, _, rfl⟩, grown_trans HG.out g1⟩
set_option maxRecDepth 100000 in
set_option maxHeartbeats 1000000 in
theorem desc_bad (p : Nat) (ys : List Int) (w : World) (h : RdrAt w p ys) (hl : 5 ≤ ys.length) (hd : (descFrom (ys.take 5)).2 ≠ 0) :
    Calls Try.prog 119 #[.pointer (some ⟨p, 0, none⟩)] w (Bad w p) := by
  have hb : Below w.heap.size w (w.alloc (.cells #[.int .i64 0, .int .i64 0, .int .i64 0, .int .i64 0, .bool false] 91)) := (Below.refl _ _).alloc (Nat.le_refl _) _
  have hcc := take_ok p 5 ys _ (h.below hb h.lt) hl
  unfold Took at hcc
  have HG := Lib.hid (grown_of_b hb (some p))
  obtain ⟨zs, hzs⟩ : ∃ zs, zs = ys.take 5 := ⟨_, rfl⟩
  rw [← hzs] at hd hcc
  have HC := Lib.hid hcc; clear hcc
  clear h hb hl hzs
  obtain ⟨c, hc⟩ : ∃ c, c = (descFrom zs).2 := ⟨_, rfl⟩
  rw [← hc] at hd
  have hz : (c == 0) = false := by simp [hd]
  have HCC := Lib.hid hc
  have hreq := fun W => require_bad (.pointer (some ⟨p, 0, none⟩)) W p
  clear hc hd
  go_enter Try.func119, Try.ntmps119
  go_wp2_with fail
  refine HC.out.mono ?_
  rintro e w1 ⟨ao, cap, rfl, hr, -, hcm, -, -, g1⟩
  have HR := Lib.hid (descFromBytes_any ao 5 cap zs w1 hr (by omega))
  have HG1 := Lib.hid (grown_trans HG.out g1)
  clear hr g1 HC HG
  rw [← HCC.out] at HR
  go_wp2_with fail
  refine HR.out.mono ?_
  rintro e w2 ⟨rfl, b2⟩
  have HG2 := Lib.hid (grown_low HG1.out (by have := HG1.out.size; exact b2.mono this))
  clear b2
  go_wp2_with fail
  refine (hreq _).mono ?_
  rintro e w4 ⟨⟨u, v, rfl⟩, g4⟩
  go_wp2_with fail
  exact ⟨rfl, ⟨_, _, rfl⟩, grown_trans (grown_low HG2.out ((Below.refl _ _).alloc HG2.out.size _)) g4⟩
set_option maxRecDepth 100000 in
set_option maxHeartbeats 1000000 in
theorem desc_ok (p : Nat) (ys : List Int) (w : World) (h : RdrAt w p ys) (hl : 5 ≤ ys.length) (hd : (descFrom (ys.take 5)).2 = 0) :
    Calls Try.prog 119 #[.pointer (some ⟨p, 0, none⟩)] w (GotDs w p (some ((descFrom (ys.take 5)).1, ys.drop 5))) := by
  have hlt := h.lt
  have hb : Below w.heap.size w (w.alloc (.cells #[.int .i64 0, .int .i64 0, .int .i64 0, .int .i64 0, .bool false] 91)) := (Below.refl _ _).alloc (Nat.le_refl _) _
  have hcc := take_ok p 5 ys _ (h.below hb h.lt) hl
  unfold Took at hcc
  have HG := Lib.hid (grown_of_b hb (some p))
  have HV := Lib.hid (DescAt.new (T := 91) (n := 0) (a := 0) (z := 0) (u := 0) (c := false) w)
  have hs1 : (w.alloc (.cells #[.int .i64 0, .int .i64 0, .int .i64 0, .int .i64 0, .bool false] 91)).heap.size = w.heap.size + 1 := by simp
  obtain ⟨zs, hzs⟩ : ∃ zs, zs = ys.take 5 := ⟨_, rfl⟩
  obtain ⟨rs, hrs⟩ : ∃ rs, rs = ys.drop 5 := ⟨_, rfl⟩
  rw [← hzs] at hd hcc ⊢
  rw [← hrs] at hcc ⊢
  have HC := Lib.hid hcc; clear hcc
  clear h hb hl hzs hrs
  obtain ⟨d, hde⟩ : ∃ d, d = (descFrom zs).1 := ⟨_, rfl⟩
  rw [← hde]
  have HD := Lib.hid hd; have HDE := Lib.hid hde
  have hreq := fun W => require_ok (.pointer (some ⟨p, 0, none⟩)) W
  clear hd hde
  go_enter Try.func119, Try.ntmps119
  go_wp2_with fail
  refine HC.out.mono ?_
  rintro e w1 ⟨ao, cap, rfl, hr, -, hcm, -, hR, g1⟩
  have HR := Lib.hid (descFromBytes_any ao 5 cap zs w1 hr (by omega))
  have HV1 := Lib.hid (HV.out.grown g1 (by simp; omega))
  have HG1 := Lib.hid (grown_trans HG.out g1)
  have HZ1 := Lib.hid (show w.heap.size + 1 ≤ w1.heap.size from by rw [← hs1]; exact g1.size)
  have HRD := Lib.hid hR
  clear hr g1 HC HG hR HV hs1
  rw [HD.out, ← HDE.out] at HR
  go_wp2_with fail
  refine HR.out.mono ?_
  rintro e w2 ⟨rfl, b2⟩
  have bd := (Below.refl w2.heap.size w2).alloc (Nat.le_refl _) (.cells #[.int .i64 d.node, .int .i64 d.kind, .int .i64 d.size, .int .i64 d.dur, .bool d.chg] 91)
  have HB2 := Lib.hid (below_two b2 bd)
  have HN := Lib.hid (DescAt.new (T := 91) (n := d.node) (a := d.kind) (z := d.size) (u := d.dur) (c := d.chg) w2)
  have hq2 : w1.heap.size ≤ w2.heap.size := b2.size
  clear b2 bd
  go_wp2_with fail
  refine (hreq _).mono ?_
  rintro e w4 ⟨rfl, rfl⟩
  generalize w2.alloc (.cells #[.int .i64 d.node, .int .i64 d.kind, .int .i64 d.size, .int .i64 d.dur, .bool d.chg] 91) = w3 at HB2 HN ⊢
  have v1 := HV1.out.below HB2.out HV1.out.lt
  have V1 := Lib.hid v1
  have q0 := HN.out.c0; have q1 := HN.out.c1; have q2 := HN.out.c2; have q3 := HN.out.c3; have q4 := HN.out.c4
  have c0 := v1.c0; have c1 := v1.c1; have c2 := v1.c2; have c3 := v1.c3; have c4 := v1.c4
  have f0 := v1.f 0; have f1 := v1.f 1; have f2 := v1.f 2; have f3 := v1.f 3; have f4 := v1.f 4
  clear v1
  go_wp2_with fail
  clear q0 q1 q2 q3 q4 c0 c1 c2 c3 c4 f0 f1 f2 f3 f4
  change bodyPost _ _ _ _ _ (setDesc w3 w.heap.size d.node d.kind d.size d.dur d.chg)
  have VF := V1.out.five d.node d.kind d.size d.dur d.chg
  have BF := below_desc (B := w.heap.size) (w := w3) (Nat.le_refl _) d.node d.kind d.size d.dur d.chg
  have G3 := Lib.hid (grown_low (grown_low HG1.out (HB2.out.mono HG1.out.size)) BF)
  have R3 := Lib.hid ((HRD.out.below HB2.out (by have := HZ1.out; omega)).below BF hlt)
  generalize setDesc w3 w.heap.size d.node d.kind d.size d.dur d.chg = w5 at VF G3 R3 ⊢
  clear BF
  have e0 := VF.c0; have e1 := VF.c1; have e2 := VF.c2; have e3 := VF.c3; have e4 := VF.c4
  exact bodyPost_ret (v := dsVal d) (by simp [dsVal, results, Try.results119, go_sem, e0, e1, e2, e3, e4]) rfl ⟨rfl, R3.out, G3.out⟩
end

section
open Go.RowKit

section
variable {w W W' : World} {T b p : Nat} {rest rest' : List Int} {x : Sl}
theorem SlBk.set0 (h : SlBk T w b x) (y : Int) : SlBk T (w.setCell ⟨b, 0, none⟩ (.int .i64 y)) b ⟨y, x.round, x.slot, ⟨x.desc.node, x.desc.kind, x.desc.size, x.desc.dur, x.desc.chg⟩⟩ := by
  have := heap_setCell_same w b 0 _ _ (.int .i64 y) h
  simpa [SlBk] using this
theorem SlBk.set1 (h : SlBk T w b x) (y : Int) : SlBk T (w.setCell ⟨b, 1, none⟩ (.int .i64 y)) b ⟨x.mode, y, x.slot, ⟨x.desc.node, x.desc.kind, x.desc.size, x.desc.dur, x.desc.chg⟩⟩ := by
  have := heap_setCell_same w b 1 _ _ (.int .i64 y) h
  simpa [SlBk] using this
theorem SlBk.set2 (h : SlBk T w b x) (y : Int) : SlBk T (w.setCell ⟨b, 2, none⟩ (.int .i64 y)) b ⟨x.mode, x.round, y, ⟨x.desc.node, x.desc.kind, x.desc.size, x.desc.dur, x.desc.chg⟩⟩ := by
  have := heap_setCell_same w b 2 _ _ (.int .i64 y) h
  simpa [SlBk] using this
theorem SlBk.set3 (h : SlBk T w b x) (y : Int) : SlBk T (w.setCell ⟨b, 3, none⟩ (.int .i64 y)) b ⟨x.mode, x.round, x.slot, ⟨y, x.desc.kind, x.desc.size, x.desc.dur, x.desc.chg⟩⟩ := by
  have := heap_setCell_same w b 3 _ _ (.int .i64 y) h
  simpa [SlBk] using this
theorem SlBk.set4 (h : SlBk T w b x) (y : Int) : SlBk T (w.setCell ⟨b, 4, none⟩ (.int .i64 y)) b ⟨x.mode, x.round, x.slot, ⟨x.desc.node, y, x.desc.size, x.desc.dur, x.desc.chg⟩⟩ := by
  have := heap_setCell_same w b 4 _ _ (.int .i64 y) h
  simpa [SlBk] using this
theorem SlBk.set5 (h : SlBk T w b x) (y : Int) : SlBk T (w.setCell ⟨b, 5, none⟩ (.int .i64 y)) b ⟨x.mode, x.round, x.slot, ⟨x.desc.node, x.desc.kind, y, x.desc.dur, x.desc.chg⟩⟩ := by
  have := heap_setCell_same w b 5 _ _ (.int .i64 y) h
  simpa [SlBk] using this
theorem SlBk.set6 (h : SlBk T w b x) (y : Int) : SlBk T (w.setCell ⟨b, 6, none⟩ (.int .i64 y)) b ⟨x.mode, x.round, x.slot, ⟨x.desc.node, x.desc.kind, x.desc.size, y, x.desc.chg⟩⟩ := by
  have := heap_setCell_same w b 6 _ _ (.int .i64 y) h
  simpa [SlBk] using this
theorem SlBk.set7 (h : SlBk T w b x) (y : Bool) : SlBk T (w.setCell ⟨b, 7, none⟩ (.bool y)) b ⟨x.mode, x.round, x.slot, ⟨x.desc.node, x.desc.kind, x.desc.size, x.desc.dur, y⟩⟩ := by
  have := heap_setCell_same w b 7 _ _ (.bool y) h
  simpa [SlBk] using this
def setSlD (w : World) (b : Nat) (d : Ds) : World := ((((w.setCell ⟨b, 3, none⟩ (.int .i64 d.node)).setCell ⟨b, 4, none⟩ (.int .i64 d.kind)).setCell ⟨b, 5, none⟩ (.int .i64 d.size)).setCell ⟨b, 6, none⟩ (.int .i64 d.dur)).setCell ⟨b, 7, none⟩ (.bool d.chg)
theorem SlBk.setD (h : SlBk T w b x) (d : Ds) : SlBk T (setSlD w b d) b ⟨x.mode, x.round, x.slot, d⟩ := ((((h.set3 d.node).set4 d.kind).set5 d.size).set6 d.dur).set7 d.chg
theorem SlBk.put (h : SlBk T w b x) (y : Sl) : SlBk T (setSl w b 0 y) b y := by
  have := ((((((((h.set0 y.mode).set1 y.round).set2 y.slot).set3 y.desc.node).set4 y.desc.kind).set5 y.desc.size).set6 y.desc.dur).set7 y.desc.chg)
  exact this
theorem below_slD {B : Nat} (hb : B ≤ b) (d : Ds) : Below B w (setSlD w b d) := (((((Below.refl _ _).setCell hb _).setCell hb _).setCell hb _).setCell hb _).setCell hb _
/-- The state within the reader's slot: the reader, the result's cell, the entry. -/
structure SltSt (w W : World) (p : Nat) (rest : List Int) (x : Sl) : Prop where
  r : RdrAt W p rest
  a1 : SlBk 93 W w.heap.size Sl.zero
  a2 : SlBk 93 W (w.heap.size + 1) x
  g : w.grownBy W (some p)
  lt : p < w.heap.size
theorem SltSt.start (h : RdrAt w p rest) : SltSt w ((w.alloc (.cells #[.int .i64 0, .int .i64 0, .int .i64 0, .int .i64 0, .int .i64 0, .int .i64 0, .int .i64 0, .bool false] 93)).alloc (.cells #[.int .i64 0, .int .i64 0, .int .i64 0, .int .i64 0, .int .i64 0, .int .i64 0, .int .i64 0, .bool false] 93)) p rest Sl.zero := by
  have hb1 : Below w.heap.size w (w.alloc (.cells #[.int .i64 0, .int .i64 0, .int .i64 0, .int .i64 0, .int .i64 0, .int .i64 0, .int .i64 0, .bool false] 93)) := (Below.refl _ _).alloc (Nat.le_refl _) _
  have hb2 : Below (w.alloc (.cells #[.int .i64 0, .int .i64 0, .int .i64 0, .int .i64 0, .int .i64 0, .int .i64 0, .int .i64 0, .bool false] 93)).heap.size (w.alloc (.cells #[.int .i64 0, .int .i64 0, .int .i64 0, .int .i64 0, .int .i64 0, .int .i64 0, .int .i64 0, .bool false] 93)) ((w.alloc (.cells #[.int .i64 0, .int .i64 0, .int .i64 0, .int .i64 0, .int .i64 0, .int .i64 0, .int .i64 0, .bool false] 93)).alloc (.cells #[.int .i64 0, .int .i64 0, .int .i64 0, .int .i64 0, .int .i64 0, .int .i64 0, .int .i64 0, .bool false] 93)) := (Below.refl _ _).alloc (Nat.le_refl _) _
  have hb := below_two hb1 hb2
  refine ⟨h.below hb h.lt, ?_, ?_, grown_of_b hb _, h.lt⟩
  · exact (SlBk.new (x := Sl.zero) w).below hb2 (by simp)
  · have h0 := SlBk.new (x := Sl.zero) (T := 93) (w.alloc (.cells #[.int .i64 0, .int .i64 0, .int .i64 0, .int .i64 0, .int .i64 0, .int .i64 0, .int .i64 0, .bool false] 93))
    rw [World.size_alloc] at h0
    exact h0
theorem SltSt.size (h : SltSt w W p rest x) : w.heap.size + 2 ≤ W.heap.size := by have := h.a2.lt; omega
theorem SltSt.call (h : SltSt w W p rest x) (hr : RdrAt W' p rest') (hg : W.grownBy W' (some p)) : SltSt w W' p rest' x :=
  ⟨hr, h.a1.grown hg (by have := h.lt; intro e; cases e; omega), h.a2.grown hg (by have := h.lt; intro e; cases e; omega), grown_trans h.g hg, h.lt⟩
theorem SltSt.bad {e : Ending} (h : SltSt w W p rest x) (hb : Bad W p e W') : Bad w p e W' := ⟨hb.1, grown_trans h.g hb.2⟩
theorem SltSt.put {y : Sl} (h : SltSt w W p rest x) (hb : Below (w.heap.size + 1) W W') (hd : SlBk 93 W' (w.heap.size + 1) y) : SltSt w W' p rest y :=
  ⟨h.r.below hb (by have := h.lt; omega), h.a1.below hb (by omega), hd, grown_low h.g (hb.mono (by omega)), h.lt⟩
end
/-- What an entry's reading leaves. -/
def GotSl (w : World) (p : Nat) (o : Option (Sl × List Int)) (e : Ending) (w' : World) : Prop :=
  match o with
  | some (x, r) => e = .returned (slVal x) ∧ RdrAt w' p r ∧ w.grownBy w' (some p)
  | none => Bad w p e w'
theorem high4 (x : Int) : x / 16 = x / 2 ^ 4 := by rfl
theorem low4 {x : Int} (h : 0 ≤ x) (h2 : x ≤ 255) : bits .and .i64 x 15 = x % 16 := by
  obtain ⟨a, rfl⟩ : ∃ a : Nat, x = a := ⟨x.toNat, by omega⟩
  have := and_nat a 15 (by omega) (by omega)
  rw [show ((15 : Nat) : Int) = 15 from rfl] at this
  rw [this, show (15 : Nat) = 2 ^ 4 - 1 from rfl, Nat.and_two_pow_sub_one_eq_mod]
  omega
set_option maxHeartbeats 2000000 in
set_option maxRecDepth 100000 in
set_option linter.unusedSimpArgs false in
theorem slot_bad1 (p : Nat) (ys : List Int) (w : World) (h : RdrAt w p ys) (h1 : ys.length < 1) :
    Calls Try.prog 86 #[.pointer (some ⟨p, 0, none⟩)] w (Bad w p) := by
  have HS := Lib.hid (SltSt.start h)
  have hby := h.bytes
  clear h
  go_enter Try.func86, Try.ntmps86
  go_upto_region 2 with fail
  generalize (w.alloc (.cells #[.int .i64 0, .int .i64 0, .int .i64 0, .int .i64 0, .int .i64 0, .int .i64 0, .int .i64 0, .bool false] 93)).alloc (.cells #[.int .i64 0, .int .i64 0, .int .i64 0, .int .i64 0, .int .i64 0, .int .i64 0, .int .i64 0, .bool false] 93) = W0 at HS ⊢
  have HN := Lib.hid (number_bad p 1 ys _ HS.out.r h1)
  go_wp2_with fail
  refine HN.out.mono ?_
  rintro e w9 hbad
  have HBAD := HS.out.bad hbad
  obtain ⟨u, v, rfl⟩ := hbad.1
  clear HS HN hbad
  go_wp2_with fail
  exact ⟨rfl, HBAD⟩
set_option maxHeartbeats 2000000 in
set_option maxRecDepth 100000 in
set_option linter.unusedSimpArgs false in
theorem slot_bad2 (p : Nat) (ys : List Int) (w : World) (h : RdrAt w p ys) (h1 : ¬ ys.length < 1) (h2 : (ys.drop 1).length < 1) :
    Calls Try.prog 86 #[.pointer (some ⟨p, 0, none⟩)] w (Bad w p) := by
  have HS := Lib.hid (SltSt.start h)
  have hby := h.bytes
  clear h
  have hb0 := bytes_at_rt hby 0
  obtain ⟨v0, hv0⟩ : ∃ v, v = ys.getD 0 0 := ⟨_, rfl⟩
  rw [← hv0] at hb0
  have HV0 := Lib.hid hv0
  clear hv0
  have hlo := low4 hb0.1 hb0.2
  have hw1 : IntKind.i64.wrap (v0 / 16) = v0 / 16 := by rw [IntKind.wrap_i64]; omega
  have hnn : 0 ≤ v0 := hb0.1
  go_enter Try.func86, Try.ntmps86
  go_upto_region 2 with fail
  generalize (w.alloc (.cells #[.int .i64 0, .int .i64 0, .int .i64 0, .int .i64 0, .int .i64 0, .int .i64 0, .int .i64 0, .bool false] 93)).alloc (.cells #[.int .i64 0, .int .i64 0, .int .i64 0, .int .i64 0, .int .i64 0, .int .i64 0, .int .i64 0, .bool false] 93) = W0 at HS ⊢
  have HN := Lib.hid (number_ok p 1 ys _ HS.out.r (by omega) (by omega))
  rw [byteNum_one (by omega), ← HV0.out] at HN
  go_wp2_with fail
  refine HN.out.mono ?_
  rintro e w1 ⟨rfl, r1, g1⟩
  have hs1 := HS.out.call r1 g1
  clear HS HN r1 g1
  have f0 := hs1.a2.f 0; have f1 := hs1.a2.f 1
  obtain ⟨d0, d1, d2, d3, d4, d5, d6, d7⟩ := hs1.a2.all8
  have HS := Lib.hid (hs1.put (((Below.refl _ _).setCell (by exact Nat.le_refl _) _).setCell (by exact Nat.le_refl _) _) ((hs1.a2.set0 (v0 / 16)).set1 (v0 % 16)))
  clear hs1
  simp only [Sl.zero, Ds.zero] at d0 d1
  go_upto_region 4 with fail
  clear d0 d1 d2 d3 d4 d5 d6 d7 f0 f1
  generalize (w1.setCell ⟨w.heap.size + 1, 0, none⟩ (.int .i64 (v0 / 16))).setCell ⟨w.heap.size + 1, 1, none⟩ (.int .i64 (v0 % 16)) = W1 at HS ⊢
  have HN := Lib.hid (number_bad p 1 (ys.drop 1) _ HS.out.r h2)
  go_wp2_with fail
  refine HN.out.mono ?_
  rintro e w9 hbad
  have HBAD := HS.out.bad hbad
  obtain ⟨u, v, rfl⟩ := hbad.1
  clear HS HN hbad
  go_wp2_with fail
  exact ⟨rfl, HBAD⟩
set_option maxHeartbeats 2000000 in
set_option maxRecDepth 100000 in
set_option linter.unusedSimpArgs false in
theorem slot_bad3 (p : Nat) (ys : List Int) (w : World) (h : RdrAt w p ys) (h1 : ¬ ys.length < 1) (h2 : ¬ (ys.drop 1).length < 1) (h3 : ((ys.drop 1).drop 1).length < 5) :
    Calls Try.prog 86 #[.pointer (some ⟨p, 0, none⟩)] w (Bad w p) := by
  have HS := Lib.hid (SltSt.start h)
  have hby := h.bytes
  clear h
  obtain ⟨v1, hv1⟩ : ∃ v, v = (ys.drop 1).getD 0 0 := ⟨_, rfl⟩
  have HV1 := Lib.hid hv1
  clear hv1
  have hb0 := bytes_at_rt hby 0
  obtain ⟨v0, hv0⟩ : ∃ v, v = ys.getD 0 0 := ⟨_, rfl⟩
  rw [← hv0] at hb0
  have HV0 := Lib.hid hv0
  clear hv0
  have hlo := low4 hb0.1 hb0.2
  have hw1 : IntKind.i64.wrap (v0 / 16) = v0 / 16 := by rw [IntKind.wrap_i64]; omega
  have hnn : 0 ≤ v0 := hb0.1
  go_enter Try.func86, Try.ntmps86
  go_upto_region 2 with fail
  generalize (w.alloc (.cells #[.int .i64 0, .int .i64 0, .int .i64 0, .int .i64 0, .int .i64 0, .int .i64 0, .int .i64 0, .bool false] 93)).alloc (.cells #[.int .i64 0, .int .i64 0, .int .i64 0, .int .i64 0, .int .i64 0, .int .i64 0, .int .i64 0, .bool false] 93) = W0 at HS ⊢
  have HN := Lib.hid (number_ok p 1 ys _ HS.out.r (by omega) (by omega))
  rw [byteNum_one (by omega), ← HV0.out] at HN
  go_wp2_with fail
  refine HN.out.mono ?_
  rintro e w1 ⟨rfl, r1, g1⟩
  have hs1 := HS.out.call r1 g1
  clear HS HN r1 g1
  have f0 := hs1.a2.f 0; have f1 := hs1.a2.f 1
  obtain ⟨d0, d1, d2, d3, d4, d5, d6, d7⟩ := hs1.a2.all8
  have HS := Lib.hid (hs1.put (((Below.refl _ _).setCell (by exact Nat.le_refl _) _).setCell (by exact Nat.le_refl _) _) ((hs1.a2.set0 (v0 / 16)).set1 (v0 % 16)))
  clear hs1
  simp only [Sl.zero, Ds.zero] at d0 d1
  go_upto_region 4 with fail
  clear d0 d1 d2 d3 d4 d5 d6 d7 f0 f1
  generalize (w1.setCell ⟨w.heap.size + 1, 0, none⟩ (.int .i64 (v0 / 16))).setCell ⟨w.heap.size + 1, 1, none⟩ (.int .i64 (v0 % 16)) = W1 at HS ⊢
  have HN := Lib.hid (number_ok p 1 (ys.drop 1) _ HS.out.r (by omega) (by omega))
  rw [byteNum_one (by omega), ← HV1.out] at HN
  go_wp2_with fail
  refine HN.out.mono ?_
  rintro e w2 ⟨rfl, r2, g2⟩
  have hs2 := HS.out.call r2 g2
  clear HS HN r2 g2
  have f2 := hs2.a2.f 2
  obtain ⟨d0, d1, d2, d3, d4, d5, d6, d7⟩ := hs2.a2.all8
  have HS := Lib.hid (hs2.put ((Below.refl _ _).setCell (by exact Nat.le_refl _) _) (hs2.a2.set2 v1))
  clear hs2
  simp only [Sl.zero, Ds.zero] at d2
  go_upto_region 5 with fail
  clear d0 d1 d2 d3 d4 d5 d6 d7 f2
  generalize w2.setCell ⟨w.heap.size + 1, 2, none⟩ (.int .i64 v1) = W2 at HS ⊢
  have HN := Lib.hid (desc_short p ((ys.drop 1).drop 1) _ HS.out.r h3)
  go_wp2_with fail
  refine HN.out.mono ?_
  rintro e w9 hbad
  have HBAD := HS.out.bad hbad
  obtain ⟨u, v, rfl⟩ := hbad.1
  clear HS HN hbad
  go_wp2_with fail
  exact ⟨rfl, HBAD⟩
set_option maxHeartbeats 2000000 in
set_option maxRecDepth 100000 in
set_option linter.unusedSimpArgs false in
theorem slot_bad4 (p : Nat) (ys : List Int) (w : World) (h : RdrAt w p ys) (h1 : ¬ ys.length < 1) (h2 : ¬ (ys.drop 1).length < 1) (h3 : ¬ ((ys.drop 1).drop 1).length < 5) (h4 : (descFrom (((ys.drop 1).drop 1).take 5)).2 ≠ 0) :
    Calls Try.prog 86 #[.pointer (some ⟨p, 0, none⟩)] w (Bad w p) := by
  have HS := Lib.hid (SltSt.start h)
  have hby := h.bytes
  clear h
  obtain ⟨v1, hv1⟩ : ∃ v, v = (ys.drop 1).getD 0 0 := ⟨_, rfl⟩
  have HV1 := Lib.hid hv1
  clear hv1
  have hb0 := bytes_at_rt hby 0
  obtain ⟨v0, hv0⟩ : ∃ v, v = ys.getD 0 0 := ⟨_, rfl⟩
  rw [← hv0] at hb0
  have HV0 := Lib.hid hv0
  clear hv0
  have hlo := low4 hb0.1 hb0.2
  have hw1 : IntKind.i64.wrap (v0 / 16) = v0 / 16 := by rw [IntKind.wrap_i64]; omega
  have hnn : 0 ≤ v0 := hb0.1
  go_enter Try.func86, Try.ntmps86
  go_upto_region 2 with fail
  generalize (w.alloc (.cells #[.int .i64 0, .int .i64 0, .int .i64 0, .int .i64 0, .int .i64 0, .int .i64 0, .int .i64 0, .bool false] 93)).alloc (.cells #[.int .i64 0, .int .i64 0, .int .i64 0, .int .i64 0, .int .i64 0, .int .i64 0, .int .i64 0, .bool false] 93) = W0 at HS ⊢
  have HN := Lib.hid (number_ok p 1 ys _ HS.out.r (by omega) (by omega))
  rw [byteNum_one (by omega), ← HV0.out] at HN
  go_wp2_with fail
  refine HN.out.mono ?_
  rintro e w1 ⟨rfl, r1, g1⟩
  have hs1 := HS.out.call r1 g1
  clear HS HN r1 g1
  have f0 := hs1.a2.f 0; have f1 := hs1.a2.f 1
  obtain ⟨d0, d1, d2, d3, d4, d5, d6, d7⟩ := hs1.a2.all8
  have HS := Lib.hid (hs1.put (((Below.refl _ _).setCell (by exact Nat.le_refl _) _).setCell (by exact Nat.le_refl _) _) ((hs1.a2.set0 (v0 / 16)).set1 (v0 % 16)))
  clear hs1
  simp only [Sl.zero, Ds.zero] at d0 d1
  go_upto_region 4 with fail
  clear d0 d1 d2 d3 d4 d5 d6 d7 f0 f1
  generalize (w1.setCell ⟨w.heap.size + 1, 0, none⟩ (.int .i64 (v0 / 16))).setCell ⟨w.heap.size + 1, 1, none⟩ (.int .i64 (v0 % 16)) = W1 at HS ⊢
  have HN := Lib.hid (number_ok p 1 (ys.drop 1) _ HS.out.r (by omega) (by omega))
  rw [byteNum_one (by omega), ← HV1.out] at HN
  go_wp2_with fail
  refine HN.out.mono ?_
  rintro e w2 ⟨rfl, r2, g2⟩
  have hs2 := HS.out.call r2 g2
  clear HS HN r2 g2
  have f2 := hs2.a2.f 2
  obtain ⟨d0, d1, d2, d3, d4, d5, d6, d7⟩ := hs2.a2.all8
  have HS := Lib.hid (hs2.put ((Below.refl _ _).setCell (by exact Nat.le_refl _) _) (hs2.a2.set2 v1))
  clear hs2
  simp only [Sl.zero, Ds.zero] at d2
  go_upto_region 5 with fail
  clear d0 d1 d2 d3 d4 d5 d6 d7 f2
  generalize w2.setCell ⟨w.heap.size + 1, 2, none⟩ (.int .i64 v1) = W2 at HS ⊢
  have HN := Lib.hid (desc_bad p ((ys.drop 1).drop 1) _ HS.out.r (by omega) h4)
  go_wp2_with fail
  refine HN.out.mono ?_
  rintro e w9 hbad
  have HBAD := HS.out.bad hbad
  obtain ⟨u, v, rfl⟩ := hbad.1
  clear HS HN hbad
  go_wp2_with fail
  exact ⟨rfl, HBAD⟩
set_option maxHeartbeats 2000000 in
set_option maxRecDepth 100000 in
set_option linter.unusedSimpArgs false in
theorem slot_ok (p : Nat) (ys : List Int) (w : World) (h : RdrAt w p ys) (h1 : ¬ ys.length < 1) (h2 : ¬ (ys.drop 1).length < 1) (h3 : ¬ ((ys.drop 1).drop 1).length < 5) (h4 : (descFrom (((ys.drop 1).drop 1).take 5)).2 = 0) :
    Calls Try.prog 86 #[.pointer (some ⟨p, 0, none⟩)] w (GotSl w p (some (⟨ys.getD 0 0 / 16, ys.getD 0 0 % 16, (ys.drop 1).getD 0 0, (descFrom (((ys.drop 1).drop 1).take 5)).1⟩, ((ys.drop 1).drop 1).drop 5))) := by
  have HS := Lib.hid (SltSt.start h)
  have hby := h.bytes
  clear h
  obtain ⟨v1, hv1⟩ : ∃ v, v = (ys.drop 1).getD 0 0 := ⟨_, rfl⟩
  have HV1 := Lib.hid hv1
  clear hv1
  have hb0 := bytes_at_rt hby 0
  obtain ⟨v0, hv0⟩ : ∃ v, v = ys.getD 0 0 := ⟨_, rfl⟩
  rw [← hv0] at hb0
  have HV0 := Lib.hid hv0
  clear hv0
  have hlo := low4 hb0.1 hb0.2
  have hw1 : IntKind.i64.wrap (v0 / 16) = v0 / 16 := by rw [IntKind.wrap_i64]; omega
  have hnn : 0 ≤ v0 := hb0.1
  rw [← HV0.out, ← HV1.out]
  obtain ⟨d, hd⟩ : ∃ d, d = (descFrom (((ys.drop 1).drop 1).take 5)).1 := ⟨_, rfl⟩
  obtain ⟨rs, hrs⟩ : ∃ rs, rs = ((ys.drop 1).drop 1).drop 5 := ⟨_, rfl⟩
  rw [← hd, ← hrs]
  have HDD := Lib.hid hd; have HRS := Lib.hid hrs
  clear hd hrs
  go_enter Try.func86, Try.ntmps86
  go_upto_region 2 with fail
  generalize (w.alloc (.cells #[.int .i64 0, .int .i64 0, .int .i64 0, .int .i64 0, .int .i64 0, .int .i64 0, .int .i64 0, .bool false] 93)).alloc (.cells #[.int .i64 0, .int .i64 0, .int .i64 0, .int .i64 0, .int .i64 0, .int .i64 0, .int .i64 0, .bool false] 93) = W0 at HS ⊢
  have HN := Lib.hid (number_ok p 1 ys _ HS.out.r (by omega) (by omega))
  rw [byteNum_one (by omega), ← HV0.out] at HN
  go_wp2_with fail
  refine HN.out.mono ?_
  rintro e w1 ⟨rfl, r1, g1⟩
  have hs1 := HS.out.call r1 g1
  clear HS HN r1 g1
  have f0 := hs1.a2.f 0; have f1 := hs1.a2.f 1
  obtain ⟨d0, d1, d2, d3, d4, d5, d6, d7⟩ := hs1.a2.all8
  have HS := Lib.hid (hs1.put (((Below.refl _ _).setCell (by exact Nat.le_refl _) _).setCell (by exact Nat.le_refl _) _) ((hs1.a2.set0 (v0 / 16)).set1 (v0 % 16)))
  clear hs1
  simp only [Sl.zero, Ds.zero] at d0 d1
  go_upto_region 4 with fail
  clear d0 d1 d2 d3 d4 d5 d6 d7 f0 f1
  generalize (w1.setCell ⟨w.heap.size + 1, 0, none⟩ (.int .i64 (v0 / 16))).setCell ⟨w.heap.size + 1, 1, none⟩ (.int .i64 (v0 % 16)) = W1 at HS ⊢
  have HN := Lib.hid (number_ok p 1 (ys.drop 1) _ HS.out.r (by omega) (by omega))
  rw [byteNum_one (by omega), ← HV1.out] at HN
  go_wp2_with fail
  refine HN.out.mono ?_
  rintro e w2 ⟨rfl, r2, g2⟩
  have hs2 := HS.out.call r2 g2
  clear HS HN r2 g2
  have f2 := hs2.a2.f 2
  obtain ⟨d0, d1, d2, d3, d4, d5, d6, d7⟩ := hs2.a2.all8
  have HS := Lib.hid (hs2.put ((Below.refl _ _).setCell (by exact Nat.le_refl _) _) (hs2.a2.set2 v1))
  clear hs2
  simp only [Sl.zero, Ds.zero] at d2
  go_upto_region 5 with fail
  clear d0 d1 d2 d3 d4 d5 d6 d7 f2
  generalize w2.setCell ⟨w.heap.size + 1, 2, none⟩ (.int .i64 v1) = W2 at HS ⊢
  have hn := desc_ok p ((ys.drop 1).drop 1) _ HS.out.r (by omega) h4
  rw [← HDD.out, ← HRS.out] at hn
  have HN := Lib.hid hn
  clear hn
  go_wp2_with fail
  refine HN.out.mono ?_
  rintro e w3 ⟨rfl, r3, g3⟩
  have hs3 := HS.out.call r3 g3
  clear HS HN r3 g3
  unfold dsVal
  have f3 := hs3.a2.f 3; have f4 := hs3.a2.f 4; have f5 := hs3.a2.f 5; have f6 := hs3.a2.f 6; have f7 := hs3.a2.f 7
  obtain ⟨d0, d1, d2, d3, d4, d5, d6, d7⟩ := hs3.a2.all8
  have HS := Lib.hid (hs3.put (below_slD (Nat.le_refl _) d) (hs3.a2.setD d))
  clear hs3
  try simp only [Sl.zero, Ds.zero] at d3 d4 d5 d6 d7
  go_upto_region 6 with fail
  clear d0 d1 d2 d3 d4 d5 d6 d7 f3 f4 f5 f6 f7
  change Code.wp _ _ _ _ (setSlD w3 (w.heap.size + 1) d)
  generalize setSlD w3 (w.heap.size + 1) d = W3 at HS ⊢
  try dsimp only [Sl.zero, Ds.zero] at HS
  obtain ⟨d0, d1, d2, d3, d4, d5, d6, d7⟩ := HS.out.a2.all8
  obtain ⟨e0, e1, e2, e3, e4, e5, e6, e7⟩ := HS.out.a1.all8
  simp only [Sl.zero, Ds.zero] at e0 e1 e2 e3 e4 e5 e6 e7
  try dsimp only at d0 d1 d2 d3 d4 d5 d6 d7
  have f0 := HS.out.a1.f 0; have f1 := HS.out.a1.f 1; have f2 := HS.out.a1.f 2; have f3 := HS.out.a1.f 3; have f4 := HS.out.a1.f 4; have f5 := HS.out.a1.f 5; have f6 := HS.out.a1.f 6; have f7 := HS.out.a1.f 7
  go_wp2_with fail
  clear d0 d1 d2 d3 d4 d5 d6 d7 e0 e1 e2 e3 e4 e5 e6 e7 f0 f1 f2 f3 f4 f5 f6 f7
  change bodyPost _ _ _ _ _ (setSl W3 w.heap.size 0 ⟨v0 / 16, v0 % 16, v1, d⟩)
  have SF := HS.out.a1.put ⟨v0 / 16, v0 % 16, v1, d⟩
  have BF := below_setSl (B := w.heap.size) (w := W3) (off := 0) (Nat.le_refl _) ⟨v0 / 16, v0 % 16, v1, d⟩
  have RF := HS.out.r.below BF HS.out.lt
  have GF := grown_low HS.out.g BF
  generalize setSl W3 w.heap.size 0 ⟨v0 / 16, v0 % 16, v1, d⟩ = wz at SF BF RF GF ⊢
  obtain ⟨e0, e1, e2, e3, e4, e5, e6, e7⟩ := SF.all8
  exact bodyPost_ret (v := slVal ⟨v0 / 16, v0 % 16, v1, d⟩) (by simp [slVal, results, Try.results86, go_sem, e0, e1, e2, e3, e4, e5, e6, e7]) rfl ⟨rfl, RF, GF⟩
theorem drops7 (ys : List Int) : ((ys.drop 1).drop 1).drop 5 = ys.drop 7 ∧ (ys.drop 1).drop 1 = ys.drop 2 := by simp [List.drop_drop]
theorem slot_any (p : Nat) (ys : List Int) (w : World) (h : RdrAt w p ys) (_hl : ys.length ≤ 1048576) :
    Calls Try.prog 86 #[.pointer (some ⟨p, 0, none⟩)] w (GotSl w p (pSl ys)) := by
  obtain ⟨q1, q2⟩ := drops7 ys
  have l1 : (ys.drop 1).length = ys.length - 1 := List.length_drop
  have l2 : ((ys.drop 1).drop 1).length = ys.length - 2 := by rw [q2, List.length_drop]
  have e1 : (ys.drop 1).getD 0 0 = ys.getD 1 0 := dropS ys 1 0
  unfold pSl
  by_cases h7 : ys.length < 7
  · rw [if_pos h7]
    by_cases h1 : ys.length < 1
    · exact slot_bad1 p ys w h h1
    by_cases h2 : (ys.drop 1).length < 1
    · exact slot_bad2 p ys w h h1 h2
    exact slot_bad3 p ys w h h1 h2 (by omega)
  rw [if_neg h7]
  by_cases h4 : (descFrom ((ys.drop 2).take 5)).2 = 0
  · rw [if_pos h4]
    have := slot_ok p ys w h (by omega) (by omega) (by omega) (by rw [q2]; exact h4)
    rwa [q1, q2, e1] at this
  · rw [if_neg h4]
    exact slot_bad4 p ys w h (by omega) (by omega) (by omega) (by rw [q2]; exact h4)
end

section
open Go.RowKit

theorem catch_panicking_s (a : Addr) (x : Int) (u : TypeId) (pv : Value) (older : List PanicEntry) (w : World) (hc : w.cell? a = some (.int .i64 x)) (hz : w.frozen? a = false) :
    CallsD Try.prog 118 #[.pointer (some a)] (.panicking ({ v := .iface u pv, recovered := false } :: older)) w fun e u' w' =>
      e = .returned (.tuple #[]) ∧ u' = .panicking ({ v := .iface u pv, recovered := true } :: older) ∧ w' = w.setCell a (.int .i64 6) := by
  refine callsD_of_wpS Try.func118 rfl fun c₀ cs hu => ?_
  apply wpS_seq
  apply wpS_region
  simp [wpOpsS, go_sem, recoverD, hu, Try.ntmps118, Exit.thenS]
  refine wpS_cond (t := true) (by simp [Act.eval, Array.replicate]) ?_
  simp only [if_true]
  apply wpS_region
  simp [wpOpsS, go_sem, hc, hz, bodyPostS, results, Try.results118]
theorem catch_idle_s (a : Addr) (w : World) :
    CallsD Try.prog 118 #[.pointer (some a)] .returning w fun e u' w' => e = .returned (.tuple #[]) ∧ u' = .returning ∧ w' = w := by
  refine callsD_of_wpS Try.func118 rfl fun c₀ cs hu => ?_
  apply wpS_seq
  apply wpS_region
  simp [wpOpsS, go_sem, recoverD, hu, Try.ntmps118, Exit.thenS]
  refine wpS_cond (t := false) (by simp [Act.eval, Array.replicate]) ?_
  simp only [Bool.false_eq_true, if_false]
  refine wpS_of_wp (wp_skip ?_)
  cases c₀
  simp_all [bodyPostS, results, Try.results118]
/-- What readTable leaves. -/
def GotR_s (w : World) (n : Nat) (o : Option (List Sl × List Int)) (e : Ending) (w' : World) : Prop :=
  match o with
  | some (t, r) => ∃ v, e = .returned (.tuple #[v, .int .i64 ((n : Int) - (r.length : Int)), .int .i64 0]) ∧ OwnE 93 w' w.heap.size v t ∧ Below w.heap.size w w'
  | none => e = .returned (.tuple #[.slice none 0 0, .int .i64 0, .int .i64 6]) ∧ Below w.heap.size w w'
set_option maxRecDepth 100000 in
set_option maxHeartbeats 1000000 in
theorem readTable_range_s (ao : Option Addr) (n cap : Nat) (xs : List Int) (w : World) (hr : Rd w ao n xs) (hn : n ≤ 1048576) (hby : isBytes xs = false) :
    Calls Try.prog 85 #[.slice ao n cap, .func (.func 86) #[] #[], .func (.func 45) #[] #[]] w fun e w' => e = .returned (.tuple #[.slice none 0 0, .int .i64 0, .int .i64 2]) ∧ Below w.heap.size w w' := by
  have hb : Below w.heap.size w (w.alloc (.cells #[.int .i64 0] 2)) := (Below.refl _ _).alloc (Nat.le_refl _) _
  have HIB := Lib.hid (isBytes_any ao n cap xs _ (hr.below hb) (by omega))
  have hh : (w.alloc (.cells #[.int .i64 0] 2)).heap[w.heap.size]? = some (.cells #[.int .i64 0] 2 (0, 0)) := heap_alloc_new w _
  have h2 := heap_setCell_same _ w.heap.size 0 _ _ (.int .i64 2) hh
  have c1 : (w.alloc (.cells #[.int .i64 0] 2)).cell? ⟨w.heap.size, 0, none⟩ = some (.int .i64 0) := cell_of_row _ _ 0 _ _ _ hh
  have f1 : (w.alloc (.cells #[.int .i64 0] 2)).frozen? ⟨w.heap.size, 0, none⟩ = false := frozen_of_row _ _ 0 _ _ hh
  clear hr hb hh h2
  go_enter_defers Try.func85, Try.ntmps85
  go_wp2_with fail
  refine HIB.out.mono ?_
  rintro e w' ⟨rfl, rfl⟩
  rw [hby]
  go_wp2_with fail
  simp only [bodyPostD, Leaves]
  have c2 : (w.alloc (.cells #[.int .i64 2] 2)).cell? ⟨w.heap.size, 0, none⟩ = some (.int .i64 2) := new_cell rfl
  simp [results, Try.results85, go_sem, c2]
  exact (Below.refl _ _).alloc (Nat.le_refl _) _
set_option maxRecDepth 100000 in
set_option maxHeartbeats 4000000 in
set_option linter.unusedSimpArgs false in
theorem readTable_any_s (ao : Option Addr) (n0 cap : Nat) (xs : List Int) (w : World) (hr : Rd w ao n0 xs) (hn : n0 ≤ 1048576) (hcap : n0 ≤ cap) (hcap2 : cap ≤ 9223372036854775807) (hblk : ∀ a, ao = some a → a.block < w.heap.size) (hby : isBytes xs = true) :
    Calls Try.prog 85 #[.slice ao n0 cap, .func (.func 86) #[] #[], .func (.func 45) #[] #[]] w (GotR_s w n0 (pSlots xs)) := by
  have hl := hr.len
  subst hl
  have hmf : ∀ (fn : Fn) (first cap : Array Value) (w : World), (Instr.makeFunc fn first cap).run Try.prog w = .ok (.func fn first cap) w := fun _ _ _ _ => rfl
  obtain ⟨hl1, hin⟩ := isBytes_iff.1 hby
  have HIB := Lib.hid (isBytes_any ao xs.length cap xs (w.alloc (.cells #[.int .i64 0] 2)) (hr.below ((Below.refl _ _).alloc (Nat.le_refl _) _)) (by omega))
  have HS := Lib.hid (RtSt.start hr hcap hcap2 hblk hin)
  have HBY := Lib.hid hin
  clear hr hblk hl1 hin
  by_cases h0 : xs.length < 1
  · rw [pSlots_short h0]
    have HC := Lib.hid (number_bad (w.heap.size + 1) 1 xs _ HS.out.rd h0)
    clear h0
    go_enter_defers Try.func85, Try.ntmps85
    go_wp2_with fail
    refine HIB.out.mono ?_
    rintro e w' ⟨rfl, rfl⟩
    rw [hby]
    go_wp2_with fail
    refine HC.out.mono ?_
    rintro e w9 hbad
    obtain ⟨c1, f1, hbs, c2⟩ := HS.out.bad hbad
    obtain ⟨⟨u, v, rfl⟩, -⟩ := hbad
    have HBS := Lib.hid hbs; have C2 := Lib.hid c2
    clear hbs c2
    go_wp2_with fail
    refine leaves_cons (f := 118) (args := #[.pointer (some ⟨w.heap.size, 0, none⟩)]) (by simp) (by simp [go_sem]) ?_
    refine (catch_panicking_s ⟨w.heap.size, 0, none⟩ 0 u v [] _ c1 f1).mono ?_
    rintro e u' w'' ⟨rfl, rfl, rfl⟩
    have c2 := C2.out
    simp [Leaves, settle, results, Try.results85, go_sem, c2]
    exact ⟨rfl, HBS.out⟩
  have hc0 := number_ok (w.heap.size + 1) 1 xs _ HS.out.rd (by omega) (by omega)
  rw [byteNum_one (by omega)] at hc0
  obtain ⟨n, hn1⟩ : ∃ n : Nat, n = (xs.getD 0 0).toNat := ⟨_, rfl⟩
  have hn4 := bytes_at_rt HBY.out 0
  have hn0 : xs.getD 0 0 = (n : Int) := by omega
  have hn5 : n ≤ 255 := by omega
  rw [hn0] at hc0
  have HNONE := Lib.hid (fun k (h : pSls (xs.drop 1) k = none) (hk : k ≤ n) => pSlots_none h0 h (by rw [← hn1]; exact hk))
  have HTAB := Lib.hid (fun t r (h : pSls (xs.drop 1) n = some (t, r)) => pSlots_tab (t := t) (r := r) h0 (by rw [← hn1]; exact h))
  have HLS := Lib.hid (fun k t r (h : pSls (xs.drop 1) k = some (t, r)) => pSls_len h)
  obtain ⟨ys, hys⟩ : ∃ ys, ys = xs.drop 1 := ⟨_, rfl⟩
  rw [← hys] at HNONE HTAB HLS hc0
  have hyl : ys.length ≤ 1048576 := by rw [hys, List.length_drop]; omega
  have HYL := Lib.hid hyl
  have H0 := Lib.hid h0
  have HC := Lib.hid hc0
  have HYX := Lib.hid (show ys.length ≤ xs.length by rw [hys, List.length_drop]; omega)
  clear hys h0 hyl hc0 hn0 hn1 hn4 HBY
  go_enter_defers Try.func85, Try.ntmps85
  go_wp2_with fail
  refine HIB.out.mono ?_
  rintro e w' ⟨rfl, rfl⟩
  rw [hby]
  go_wp2_with fail
  refine HC.out.mono ?_
  rintro e w1 ⟨rfl, hR, hG⟩
  have HS1 := Lib.hid (HS.out.call hR hG)
  clear hR hG HC HS HIB
  go_wp2_with (at_make; refine make_sl _ rfl _ _ rfl w1.heap.size Try.underlying47 infoSl _ _ _ _ n rfl rfl rfl rfl (by omega) (Nat.le_refl _) ?_; intro w2 o2 b2)
  have o2' : OwnE 93 w2 w1.heap.size (.slice (some ⟨w1.heap.size, 0, none⟩) n n) (fillS [] n) := by
    have e : fillS [] n = List.replicate n Sl.zero := by simp [fillS]
    rw [e]; exact o2
  have HS2 := Lib.hid (HS1.out.next b2)
  have hGs := HS1.out.size
  obtain ⟨G, hGe⟩ : ∃ G, G = w1.heap.size := ⟨_, rfl⟩
  rw [← hGe] at o2' hGs ⊢
  clear o2 b2 hGe HS1
  go_loopw [24] (fun i wr => ∃ (k : Nat) (t : List Sl) (r : List Int), k ≤ n ∧ i = .int .i64 k ∧ Hid (pSls ys k = some (t, r)) ∧ OwnE 93 wr G (.slice (some ⟨G, 0, none⟩) n n) (fillS t n) ∧ Hid (RtSt w wr r)) (fun i _ => n - (intOf i).toNat)
  case atStart => exact ⟨0, [], ys, Nat.zero_le _, rfl, rfl, o2', HS2⟩
  case round =>
    clear o2' HS2
    obtain ⟨k, t, r, hk, rfl, hpe, ho, HS⟩ := hrel
    obtain ⟨htl, hrl⟩ := HLS.out _ _ _ hpe.out
    have hrl2 : r.length ≤ 1048576 := Nat.le_trans hrl HYL.out
    have hpe1 : pSls ys (k + 1) = (pSl r).map fun q => (t ++ [q.1], q.2) := by rw [pSls, hpe.out]; rfl
    have HO := Lib.hid ho; have HTL := Lib.hid htl; have HPE1 := Lib.hid hpe1
    clear ho htl hpe1
    by_cases hlt : k < n
    · have HCB := Lib.hid (slot_any (w.heap.size + 1) r wr HS.out.rd hrl2)
      rcases hok : pSl r with _ | ⟨x, r2⟩
      · have hnn : pSlots xs = none := HNONE.out (k + 1) (by rw [HPE1.out, hok]; rfl) hlt
        rw [hnn]
        rw [hok] at HCB
        clear hnn
        go_wp2_with fail
        refine HCB.out.mono ?_
        rintro e w9 hbad
        obtain ⟨c1, f1, hbs, c2⟩ := HS.out.bad hbad
        obtain ⟨⟨u, v, rfl⟩, -⟩ := hbad
        have HBS := Lib.hid hbs; have C2 := Lib.hid c2
        clear hbs c2
        go_wp2_with fail
        refine leaves_cons (f := 118) (args := #[.pointer (some ⟨w.heap.size, 0, none⟩)]) (by simp) (by simp [go_sem]) ?_
        refine (catch_panicking_s ⟨w.heap.size, 0, none⟩ 0 u v [] _ c1 f1).mono ?_
        rintro e u' w'' ⟨rfl, rfl, rfl⟩
        have c2 := C2.out
        simp [Leaves, settle, results, Try.results85, go_sem, c2]
        exact ⟨rfl, HBS.out⟩
      · have hpe2 : pSls ys (k + 1) = some (t ++ [x], r2) := by rw [HPE1.out, hok]; rfl
        rw [hok] at HCB
        have HPE2 := Lib.hid hpe2; clear hpe2 HPE1 hok
        go_wp2_with fail
        refine HCB.out.mono ?_
        rintro e w3 ⟨rfl, hR3, hG3⟩
        unfold slVal
        have hfl : (fillS t n).length = n := fillS_len (by rw [HTL.out]; omega)
        have hO3 := HO.out.old hG3 (show w.heap.size + 1 < G by omega)
        have hset := fillS_set (t := t) (n := n) (by rw [HTL.out]; exact hlt) x
        rw [HTL.out] at hset
        obtain ⟨hz, fz, hst, hbst⟩ := hO3.store hfl hlt x
        rw [hset] at hst
        have HST := Lib.hid hst
        have HS4 := Lib.hid ((HS.out.call hR3 hG3).low hbst hGs)
        obtain ⟨z0, z1, z2, z3, z4, z5, z6, z7⟩ := hz
        generalize slOf (fillS t n) k = z at z0 z1 z2 z3 z4 z5 z6 z7
        clear hst hbst hset hO3 hfl hR3 hG3 HS
        go_wp2_with fail
        clear z0 z1 z2 z3 z4 z5 z6 z7 fz
        go_roundw
        case rel => exact ⟨k + 1, t ++ [x], r2, by omega, by go_num, HPE2.out, HST.out, HS4⟩
        case measure => simp [intOf]; omega
    · have hkn : k = n := by omega
      subst hkn
      have ho := HO.out
      have hft : fillS t k = t := by rw [← HTL.out]; exact fillS_full
      rw [hft] at ho
      have HO2 := Lib.hid ho
      obtain ⟨ao', cap', e1, r1, -⟩ := ho.form
      simp only [Value.slice.injEq] at e1
      rw [← e1.1, HTL.out] at r1
      clear e1
      have hcall := isSlsI_any (some ⟨G, 0, none⟩) k k t wr r1 (by omega)
      have HCALL := Lib.hid hcall
      have hpt := HTAB.out t r hpe.out
      have HRL := Lib.hid (show r.length ≤ xs.length from Nat.le_trans hrl HYX.out)
      clear hcall ho hft r1 HPE1 hrl2 hrl
      rcases ht : isSls t with _ | _
      · rw [ht] at hpt HCALL
        rw [if_neg (by simp)] at hpt
        rw [hpt]
        have hreq := fun W => require_bad (.pointer (some ⟨w.heap.size + 1, 0, none⟩)) W (w.heap.size + 1)
        go_wp2_with fail
        refine HCALL.out.mono ?_
        rintro e w3 ⟨rfl, b3⟩
        replace HS := Lib.hid (HS.out.next b3); clear b3
        go_wp2_with fail
        refine (hreq _).mono ?_
        rintro e w9 hbad
        clear hreq
        obtain ⟨c1, f1, hbs, c2⟩ := HS.out.bad hbad
        obtain ⟨⟨u, v, rfl⟩, -⟩ := hbad
        have HBS := Lib.hid hbs; have C2 := Lib.hid c2
        clear hbs c2
        go_wp2_with fail
        refine leaves_cons (f := 118) (args := #[.pointer (some ⟨w.heap.size, 0, none⟩)]) (by simp) (by simp [go_sem]) ?_
        refine (catch_panicking_s ⟨w.heap.size, 0, none⟩ 0 u v [] _ c1 f1).mono ?_
        rintro e u' w'' ⟨rfl, rfl, rfl⟩
        have c2 := C2.out
        simp [Leaves, settle, results, Try.results85, go_sem, c2]
        exact ⟨rfl, HBS.out⟩
      · rw [ht] at hpt HCALL
        rw [if_pos rfl] at hpt
        have HPT := Lib.hid hpt; clear hpt
        have hreq := fun W => require_ok (.pointer (some ⟨w.heap.size + 1, 0, none⟩)) W
        go_wp2_with fail
        refine HCALL.out.mono ?_
        rintro e w3 ⟨rfl, b3⟩
        replace HS := Lib.hid (HS.out.next b3)
        have O3 := Lib.hid (HO2.out.below b3); clear b3
        go_wp2_with fail
        refine (hreq _).mono ?_
        rintro e w4 ⟨rfl, rfl⟩
        clear hreq HCALL HO HO2 HNONE HTAB HLS
        obtain ⟨ao2, cap2, hcell, c1, f1, hcell2, c2, f2, hB2⟩ := HS.out.done
        have HB2 := Lib.hid hB2; have C2 := Lib.hid c2
        have hO2 := OwnE.old O3.out (grown_set w3 w.heap.size 0 (.int .i64 0)) (by omega)
        have HO2 := Lib.hid (hO2.more (base' := w.heap.size) (by omega))
        clear hO2 hB2 c2
        have hws : IntKind.i64.wrap ((xs.length : Int) - (r.length : Int)) = (xs.length : Int) - (r.length : Int) := by have := HRL.out; rw [IntKind.wrap_i64]; omega
        go_wp2_with fail
        refine wp_mono (h := ?_) (hq := fun e a w h => of_nopanic h)
        refine wp_region_held_drew (S := fun w' => w'.cell? ⟨w.heap.size + 1, 0, none⟩ = some (.slice ao2 r.length cap2) ∧ w'.cell? ⟨w.heap.size, 0, none⟩ = some (.int .i64 0) ∧ w'.frozen? ⟨w.heap.size, 0, none⟩ = false) (by kernel_rfl) (⟨hcell, c1, f1⟩) (fun hHeld => ?_)
        refine wpAnyH_take (i := 0) (v := ?_) rfl (by kernel_rfl) (by kernel_rfl) (by kernel_rfl) (fun _ _ _ h => h) (Or.inl ⟨by rfl, ?_⟩) (by assumption) ?_
        rotate_left
        · (intro w hSw; (try dsimp only at hSw); go_simp; (try with_reducible rfl))
        try simp only [List.getElem_toArray, List.getElem_cons_succ, List.getElem_cons_zero, Act.put, List.setIfInBounds_toArray, List.set_cons_zero, List.set_cons_succ]
        refine wpAnyH_take (i := 1) (v := ?_) rfl (by kernel_rfl) (by kernel_rfl) (by kernel_rfl) (fun _ _ _ h => h) (Or.inl ⟨by rfl, ?_⟩) (by assumption) ?_
        rotate_left
        · (intro w hSw; (try dsimp only at hSw); go_simp; (try with_reducible rfl))
        try simp only [List.getElem_toArray, List.getElem_cons_succ, List.getElem_cons_zero, Act.put, List.setIfInBounds_toArray, List.set_cons_zero, List.set_cons_succ]
        refine wpAnyH_take (i := 2) (v := ?_) rfl (by kernel_rfl) (by kernel_rfl) (by kernel_rfl) (fun _ _ _ h => h) (Or.inl ⟨by rfl, ?_⟩) (by assumption) ?_
        rotate_left
        · (intro w hSw; (try dsimp only at hSw); go_simp; (try with_reducible rfl))
        try simp only [List.getElem_toArray, List.getElem_cons_succ, List.getElem_cons_zero, Act.put, List.setIfInBounds_toArray, List.set_cons_zero, List.set_cons_succ]
        refine wpAnyH_take (i := 3) (v := ?_) rfl (by kernel_rfl) (by kernel_rfl) (by kernel_rfl) (fun _ _ _ h => h) (Or.inl ⟨by rfl, ?_⟩) (by assumption) ?_
        rotate_left
        · (intro w hSw; (try dsimp only at hSw); go_simp; (try with_reducible rfl))
        try simp only [List.getElem_toArray, List.getElem_cons_succ, List.getElem_cons_zero, Act.put, List.setIfInBounds_toArray, List.set_cons_zero, List.set_cons_succ]
        refine wpAnyH_take (i := 4) (v := ?_) rfl (by kernel_rfl) (by kernel_rfl) (by kernel_rfl) (fun _ _ _ h => h) (Or.inl ⟨by rfl, ?_⟩) (by assumption) ?_
        rotate_left
        · (intro w hSw; (try dsimp only at hSw); go_simp; (try with_reducible rfl))
        try simp only [List.getElem_toArray, List.getElem_cons_succ, List.getElem_cons_zero, Act.put, List.setIfInBounds_toArray, List.set_cons_zero, List.set_cons_succ]
        refine wpAnyH_take (i := 5) (v := ?_) rfl (by kernel_rfl) (by kernel_rfl) (by kernel_rfl) (fun _ _ _ h => h) (Or.inl ⟨by rfl, ?_⟩) (by assumption) ?_
        rotate_left
        · (intro w hSw; (try dsimp only at hSw); go_simp; (try with_reducible rfl))
        try simp only [List.getElem_toArray, List.getElem_cons_succ, List.getElem_cons_zero, Act.put, List.setIfInBounds_toArray, List.set_cons_zero, List.set_cons_succ]
        refine wpAnyH_take (i := 6) (v := ?_) rfl (by kernel_rfl) (by kernel_rfl) (by kernel_rfl) (fun _ _ _ h => h) (Or.inl ⟨by rfl, ?_⟩) (by assumption) ?_
        rotate_left
        · (intro w hSw; (try dsimp only at hSw); go_simp; (try with_reducible rfl))
        try simp only [List.getElem_toArray, List.getElem_cons_succ, List.getElem_cons_zero, Act.put, List.setIfInBounds_toArray, List.set_cons_zero, List.set_cons_succ]
        refine wpAnyH_take (i := 7) (v := ?_) rfl (by kernel_rfl) (by kernel_rfl) (by kernel_rfl) (fun _ _ _ h => h) (Or.inl ⟨by rfl, ?_⟩) (by assumption) ?_
        rotate_left
        · (intro w hSw; (try dsimp only at hSw); go_simp; (try with_reducible rfl))
        try simp only [List.getElem_toArray, List.getElem_cons_succ, List.getElem_cons_zero, Act.put, List.setIfInBounds_toArray, List.set_cons_zero, List.set_cons_succ]
        refine wpAnyH_take (i := 8) (v := ?_) rfl (by kernel_rfl) (by kernel_rfl) (by kernel_rfl) (fun _ _ _ h => h) (Or.inl ⟨by rfl, ?_⟩) (by assumption) ?_
        rotate_left
        · (intro w hSw; (try dsimp only at hSw); go_simp; (try with_reducible rfl))
        try simp only [List.getElem_toArray, List.getElem_cons_succ, List.getElem_cons_zero, Act.put, List.setIfInBounds_toArray, List.set_cons_zero, List.set_cons_succ]
        refine wpAnyH_take (i := 9) (v := ?_) rfl (by kernel_rfl) (by kernel_rfl) (by kernel_rfl) (fun _ _ _ h => h) (Or.inl ⟨by rfl, ?_⟩) (by assumption) ?_
        rotate_left
        · (intro w hSw; (try dsimp only at hSw); go_simp; (try with_reducible rfl))
        try simp only [List.getElem_toArray, List.getElem_cons_succ, List.getElem_cons_zero, Act.put, List.setIfInBounds_toArray, List.set_cons_zero, List.set_cons_succ]
        refine wpAnyH_take (i := 10) (v := ?_) rfl (by kernel_rfl) (by kernel_rfl) (by kernel_rfl) (fun _ _ _ h => h) (Or.inl ⟨by rfl, ?_⟩) (by assumption) ?_
        rotate_left
        · (intro w hSw; (try dsimp only at hSw); go_simp; (try with_reducible rfl))
        try simp only [List.getElem_toArray, List.getElem_cons_succ, List.getElem_cons_zero, Act.put, List.setIfInBounds_toArray, List.set_cons_zero, List.set_cons_succ]
        refine wpAnyH_ready (rs := [11]) (by kernel_rfl) (by simp) (AllReadyH.cons rfl (fun K hK => ?_) AllReadyH.nil)
        go_simp
        refine hK.out _ _ ?_ (fun hHeld => ?_)
        · exact ⟨hcell2, C2.out, f2⟩
        clear hK K
        try simp only [List.getElem_toArray, List.getElem_cons_succ, List.getElem_cons_zero, Act.put, List.setIfInBounds_toArray, List.set_cons_zero, List.set_cons_succ]
        refine wpAnyH_done (by kernel_rfl) ?_ _
        simp only [nopanic]
        have c2 := C2.out
        go_wp2_with fail
        refine leaves_cons (f := 118) (args := #[.pointer (some ⟨w.heap.size, 0, none⟩)]) (by simp) (by simp [go_sem]) ?_
        refine (catch_idle_s ⟨w.heap.size, 0, none⟩ _).mono ?_
        rintro e u' w'' ⟨rfl, rfl, rfl⟩
        simp [Leaves, settle, results, Try.results85, go_sem, c2]
        rw [HPT.out]
        exact ⟨_, rfl, HO2.out.below (Below.drew (Below.refl _ _)), Below.drew HB2.out⟩
theorem rs_range {xs : List Int} (h : isBytes xs = false) : readSlotTable xs = ([], 0, 2) := by unfold readSlotTable; rw [if_pos h]
theorem rs_none {xs : List Int} (h : isBytes xs = true) (h2 : readSlots xs = none) : readSlotTable xs = ([], 0, 6) := by unfold readSlotTable; rw [if_neg (by rw [h]; simp), h2]
theorem rs_some {xs : List Int} {t : List Sl} {a : Nat} (h : isBytes xs = true) (h2 : readSlots xs = some (t, a)) : readSlotTable xs = (t, (a : Int), 0) := by unfold readSlotTable; rw [if_neg (by rw [h]; simp), h2]
set_option maxRecDepth 100000 in
set_option maxHeartbeats 1000000 in
theorem readSlotsI_any (ao : Option Addr) (n cap : Nat) (xs : List Int) (w : World) (hr : Rd w ao n xs) (hn : n ≤ 1048576) (hcap : n ≤ cap) (hcap2 : cap ≤ 9223372036854775807) (hblk : ∀ a, ao = some a → a.block < w.heap.size) :
    Calls Try.prog 42 #[.slice ao n cap] w (MakesE3 93 w (readSlotTable xs).1 (readSlotTable xs).2.1 (readSlotTable xs).2.2) := by
  have hl := hr.len
  subst hl
  rcases hby : isBytes xs with _ | _
  · have HF := Lib.hid (rs_range hby)
    rw [HF.out]
    have HC := Lib.hid (readTable_range_s ao xs.length cap xs w hr hn hby)
    clear hr hblk
    go_enter Try.func42, Try.ntmps42
    go_wp2_with fail
    refine HC.out.mono ?_
    rintro e w' ⟨rfl, b1⟩
    go_wp2_with fail
    go_ret3
    exact ⟨_, rfl, OwnE.nil_, b1⟩
  have hpe := pSlots_eq xs
  rcases hp : pSlots xs with _ | ⟨t, r⟩
  · rw [hp] at hpe
    have HF := Lib.hid (rs_none hby hpe)
    rw [HF.out]
    have HC := Lib.hid ((by have h := readTable_any_s ao xs.length cap xs w hr hn hcap hcap2 hblk hby; rw [hp] at h; exact h : Calls Try.prog 85 #[.slice ao xs.length cap, .func (.func 86) #[] #[], .func (.func 45) #[] #[]] w (GotR_s w xs.length none)))
    clear hr hpe hblk
    go_enter Try.func42, Try.ntmps42
    go_wp2_with fail
    refine HC.out.mono ?_
    rintro e w1 ⟨rfl, b1⟩
    go_wp2_with fail
    go_ret3
    exact ⟨_, rfl, OwnE.nil_, b1⟩
  · rw [hp] at hpe
    have hrl := (pSlots_rest hp).1
    have HF := Lib.hid (rs_some hby hpe)
    have HC := Lib.hid ((by have h := readTable_any_s ao xs.length cap xs w hr hn hcap hcap2 hblk hby; rw [hp] at h; exact h : Calls Try.prog 85 #[.slice ao xs.length cap, .func (.func 86) #[] #[], .func (.func 45) #[] #[]] w (GotR_s w xs.length (some (t, r)))))
    have HE := Lib.hid (show ((xs.length : Int) - (r.length : Int)) = ((xs.length - r.length : Nat) : Int) from by omega)
    clear hr hpe hblk
    go_enter Try.func42, Try.ntmps42
    go_wp2_with fail
    refine HC.out.mono ?_
    rintro e w1 ⟨v, rfl, o1, b1⟩
    rw [HE.out]
    go_wp2_with fail
    go_ret3
    rw [HF.out]
    exact ⟨_, rfl, o1, b1⟩
end
end Go.Proofs.Ytpedlofckbplmaa
