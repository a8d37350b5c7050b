/-
  Chapter 3: spec.DrawFirstMissed; what FnLeastMissed says.
-/
import Derived.Test.YtfmbefmiglpijaaC3n
import Derived.Test.YtfmbefmiglpijaaC3k
import Derived.Test.YtfmbefmiglpijaaOneB
namespace Go.Proofs.Ytfmbefmiglpijaa
open Go.RowKit

set_option maxRecDepth 100000 in
theorem drawFirstMissed_any (ao : Option Addr) (n cap : Nat) (cs : List Int) (w : World) (hr : RdB w w.heap.size ao n cs) (hn : n ≤ 1048576) :
    Calls Try.prog 20 #[.slice ao n cap] w (DrawnCI w) := by
  have hb0 : Below w.heap.size w (w.alloc (.cells #[.int .i64 0, .int .i64 0] 25)) := (Below.refl _ _).alloc (Nat.le_refl _) _
  have hR0 : StructAt 25 (w.alloc (.cells #[.int .i64 0, .int .i64 0] 25)) w.heap.size 0 0 := StructAt.new w
  have hr0 := rdB_grow hr hb0
  have HB := Lib.hid hb0; clear hb0
  have HR := Lib.hid hr0; clear hr0 hr
  have HR0 := Lib.hid hR0; clear hR0
  go_enter Try.func20, Try.ntmps20
  go_wp2_with fail
  generalize w.alloc (.cells #[.int .i64 0, .int .i64 0] 25) = w0 at HB HR HR0 ⊢
  refine (drawLeastWeight_any _ _ _ cs _ HR.out hn).mono ?_
  rintro e w5 ⟨wd, pl, s, rfl, b5⟩
  have R5 := Lib.hid (HR0.out.below b5 HR0.out.lt)
  have hr0 := R5.out.c0
  have hr1 := R5.out.c1
  have hq0 := R5.out.f0 0
  have hq1 := R5.out.f0 1
  have B5 := Lib.hid b5
  clear b5
  go_wp2
  have h6 : Below w.heap.size w5 ((w5.setCell ⟨w.heap.size, 0, none⟩ (.int .i64 wd)).setCell ⟨w.heap.size, 1, none⟩ (.int .i64 pl)) := ((Below.refl _ _).setCell (by simp) _).setCell (by simp) _
  have hR6 := (R5.out.set0 wd).set1 pl
  have hd0 := hR6.c0
  have hd1 := hR6.c1
  clear hr0 hr1 hq0 hq1 hR6
  exact bodyPost_ret (v := .tuple #[.agg #[.int .i64 wd, .int .i64 pl], .int .i64 s]) (by simp [results, Try.results20, go_sem, hd0, hd1]) rfl ⟨_, _, _, rfl, (below_two HB.out B5.out).trans h6⟩

theorem flipBits_at (ao bo : Option Addr) (n m cap cap' : Nat) (xs ids : List Int) (w : World) (hr : Rd w ao n xs) (hr' : Rd w bo m ids) (hn : n ≤ 1048576) (hn' : m ≤ 1048576) :
    Calls Try.prog 26 #[.slice ao n cap, .slice bo m cap'] w (Makes2 2 w (flipBits xs ids).1 (flipBits xs ids).2) := by
  obtain rfl := hr.len
  obtain rfl := hr'.len
  exact flipBits_any ao bo cap cap' xs ids w hr hr' hn hn'
theorem HeldC.first {E T : Nat} {w w1 : World} {x y : Int} (b : Below w.heap.size w w1) : HeldC E T w (w1.alloc (.cells #[.int .i64 x, .int .i64 y] T)) w1.heap.size x y [] := ⟨Held.start.still (b.alloc b.size _), StructAt.new w1⟩
/-- Where nothing is found the least weight is 4. -/
theorem least_four {wd p sp : Int} {l : List Int} (h : firstOf wd p sp = (l, 4)) : leastOf wd p sp = (4, 0) := by
  by_cases hs : spanCode wd p sp = 0
  · obtain ⟨hI, hr⟩ := spanCode_get hs
    obtain ⟨W, g, rfl, h1, h2, rfl, hg⟩ := isCrc_get hI
    obtain ⟨n, rfl⟩ := Int.eq_ofNat_of_zero_le (show 0 ≤ sp by omega)
    by_cases hf : firstMissed g n = []
    · exact lo_4 hs hf
    · rw [fo_0 hs hf] at h; simp at h
  · rw [fo_code hs] at h
    simp only [Prod.mk.injEq] at h
    have hc : spanCode wd p sp = 1 ∨ spanCode wd p sp = 2 := by
      rcases hI : isCrc wd p with _ | _
      · exact .inl (spanCode_1 hI)
      · by_cases h2 : 1 ≤ sp ∧ sp ≤ 64
        · exact absurd (spanCode_0 hI h2) hs
        · exact .inr (spanCode_2 hI h2)
    omega
theorem leastOf_nat {W : Nat} {g : BitVec W} (h1 : 3 ≤ W) (h2 : W ≤ 24) (hg : g.getLsbD 0 = true) (n : Nat) (hn : 1 ≤ n) (hn2 : n ≤ 64) : leastOf (W : Int) (g.toNat : Int) (n : Int) = ((leastWeight g n : Int), 0) := by
  have hs := spanCode_0 (span := (n : Int)) (isCrc_put h1 h2 hg) (by omega)
  by_cases hf : firstMissed g n = []
  · rw [lo_4 hs hf]; unfold leastWeight; rw [hf]; rfl
  · rw [lo_0 hs hf]; unfold leastWeight; rw [if_neg (by simpa using hf)]
/-- What a first missed error that is found is. -/
theorem least_round {wd p sp q0 q1 : Int} {l : List Int} (h : firstOf wd p sp = (l, 0)) (hq : leastOf wd p sp = (q0, q1)) : ∃ (W : Nat) (g : BitVec W) (n : Nat) (es : List Int), wd = (W : Int) ∧ p = (g.toNat : Int) ∧ sp = (n : Int) ∧ 1 ≤ n ∧ n ≤ 64 ∧ q0 = (l.length : Int) ∧
    flipBits (List.replicate n 0) l = (es, 0) ∧ es.length ≤ 8192 ∧ isMissed (W : Int) (g.toNat : Int) es = true ∧ (1 < n → ∃ q : Int, leastOf (W : Int) (g.toNat : Int) (((n - 1 : Nat)) : Int) = (q, 0) ∧ (l.length : Int) ≤ q) := by
  by_cases hs : spanCode wd p sp = 0
  · obtain ⟨hI, hr⟩ := spanCode_get hs
    obtain ⟨W, g, rfl, h1, h2, rfl, hg⟩ := isCrc_get hI
    obtain ⟨n, rfl⟩ := Int.eq_ofNat_of_zero_le (show 0 ≤ sp by omega)
    by_cases hf : firstMissed g n = []
    · rw [fo_4 hs hf] at h; simp at h
    · rw [fo_0 hs hf] at h
      rw [lo_0 hs hf] at hq
      simp only [Prod.mk.injEq, and_true] at h hq
      subst h
      obtain ⟨es, e1, e2, e3, e4⟩ := first_round hg (span := n) (by omega) hf
      refine ⟨W, g, n, es, rfl, rfl, rfl, by omega, by omega, hq.1.symm, e1, (isBits_iff.1 e2).1, ?_, fun hn => ⟨(leastWeight g (n - 1) : Int), leastOf_nat h1 h2 hg (n - 1) (by omega) (by omega), ?_⟩⟩
      · unfold isMissed
        rw [hI, e2, decide_eq_true e3, crcRaw_zero, decide_eq_true ((regOf_zero g es).2 e4)]; rfl
      · have hm := least_mono hg (n - 1)
        rw [show n - 1 + 1 = n from by omega] at hm
        have hw : leastWeight g n = (firstMissed g n).length := by unfold leastWeight; rw [if_neg (by simpa using hf)]
        omega
  · rw [fo_code hs] at h
    simp only [Prod.mk.injEq] at h
    exact absurd h.2 hs
end Go.Proofs.Ytfmbefmiglpijaa
