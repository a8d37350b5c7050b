/-
  Chapter 3: spec.DrawOrderOf; what FnOrders says.
-/
import Derived.Test.YtfmbefmiglpijaaC3c
import Derived.Test.YtfmbefmiglpijaaDrawC
import Derived.Test.YtfmbefmiglpijaaLawC
namespace Go.Proofs.Ytfmbefmiglpijaa
open Go.RowKit

/-- What a draw of a code alone leaves. -/
def DrawnC (w : World) (e : Ending) (w' : World) : Prop :=
  ∃ wd pl : Int, e = .returned (.agg #[.int .i64 wd, .int .i64 pl]) ∧ Below w.heap.size w w'
set_option maxRecDepth 100000 in
theorem drawOrderOf_any (ao : Option Addr) (n cap : Nat) (cs : List Int) (w : World) (hr : RdB w w.heap.size ao n cs) (hn : n ≤ 1048576) :
    Calls Try.prog 27 #[.slice ao n cap] w (DrawnC w) := by
  have hb0 : Below w.heap.size w (w.alloc (.cells #[.int .i64 0, .int .i64 0] 25)) := (Below.refl _ _).alloc (Nat.le_refl _) _
  have hR0 : StructAt 25 (w.alloc (.cells #[.int .i64 0, .int .i64 0] 25)) w.heap.size 0 0 := StructAt.new w
  have hr0 := rdB_grow hr hb0
  have HB := Lib.hid hb0; clear hb0
  have HR := Lib.hid hr0; clear hr0 hr
  have HR0 := Lib.hid hR0; clear hR0
  go_enter Try.func27, Try.ntmps27
  go_wp2_with fail
  generalize w.alloc (.cells #[.int .i64 0, .int .i64 0] 25) = w0 at HB HR HR0 ⊢
  refine (from_any _ _ _ cs _ HR.out hn).mono ?_
  rintro e w1 ⟨p, rfl, hlo, hs1, hb1⟩
  have H : HeldS 2 94 w0 w1 p [] := HeldS.start hb1 hlo hs1
  clear hlo hs1 hb1
  go_wp2_with fail
  refine (draw_any _ _ H.src).mono ?_
  rintro e w2 ⟨wd, pl, rfl, hs2, g2⟩
  replace H := H.next hs2 g2
  have R2 := Lib.hid (HR0.out.below H.below HR0.out.lt)
  have B2 := Lib.hid (below_two HB.out H.below)
  clear hs2 g2 H
  have hr0 := R2.out.c0
  have hr1 := R2.out.c1
  have hq0 := R2.out.f0 0
  have hq1 := R2.out.f0 1
  go_wp2
  have h6 : Below w.heap.size w2 ((w2.setCell ⟨w.heap.size, 0, none⟩ (.int .i64 wd)).setCell ⟨w.heap.size, 1, none⟩ (.int .i64 pl)) := ((Below.refl _ _).setCell (by simp) _).setCell (by simp) _
  have hR6 := (R2.out.set0 wd).set1 pl
  have hd0 := hR6.c0
  have hd1 := hR6.c1
  clear hr0 hr1 hq0 hq1 hR6
  exact bodyPost_ret (v := .agg #[.int .i64 wd, .int .i64 pl]) (by simp [results, Try.results27, go_sem, hd0, hd1]) rfl ⟨_, _, rfl, B2.out.trans h6⟩

theorem own_rd {E base n cap : Nat} {w : World} {ao : Option Addr} {xs : List Int} (h : Own E w base (.slice ao n cap) xs) : Rd w ao n xs := by
  obtain ⟨ao', cap', e, o, r⟩ := h.get
  cases e
  exact r
/-- What an order that is found is. -/
theorem order_get {wd p r0 : Int} (h : orderOf wd p = (r0, 0)) : ∃ (W : Nat) (g : BitVec W) (N : Nat), wd = (W : Int) ∧ p = (g.toNat : Int) ∧ r0 = (N : Int) ∧ 3 ≤ W ∧ W ≤ 24 ∧ g.getLsbD 0 = true ∧ 1 ≤ N ∧ N ≤ 5000 ∧ tail g N = g ∧ ∀ m, 1 ≤ m → m < N → tail g m ≠ g := by
  rcases hI : isCrc wd p with _ | _
  · rw [orderOf_1 hI] at h; simp at h
  · obtain ⟨W, g, rfl, h1, h2, rfl, hg⟩ := isCrc_get hI
    rw [orderOf_0 hI] at h
    by_cases hl : order g ≤ 5000
    · rw [if_pos hl] at h
      have ho : 1 ≤ order g := (ord_le 5000 1).1
      refine ⟨W, g, order g, rfl, rfl, (congrArg Prod.fst h).symm, h1, h2, hg, ho, hl, ord_at 5000 1 (by show order g < 1 + 5000; omega), fun m h3 h4 => ord_before 5000 1 m h3 h4⟩
    · rw [if_neg hl] at h; simp at h
theorem pair_set {W : Nat} {g : BitVec W} (h1 : 3 ≤ W) (h2 : W ≤ 24) (hg : g.getLsbD 0 = true) (N : Nat) (hN : 1 ≤ N) (hM : N ≤ 5000) : isMissed (W : Int) (g.toNat : Int) (((List.replicate (N + 1) (0 : Int)).set 0 1).set N 1) = decide (tail g N = g) := by
  obtain ⟨n, rfl⟩ : ∃ n, N = n + 1 := ⟨N - 1, by omega⟩
  rw [pair_list, pair_isMissed h1 h2 hg n (by omega)]
end Go.Proofs.Ytfmbefmiglpijaa
