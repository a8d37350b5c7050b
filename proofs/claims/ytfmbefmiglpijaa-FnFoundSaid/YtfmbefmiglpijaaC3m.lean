/-
  Chapter 3: the draws of FnBursts; what it says.
-/
import Derived.Test.YtfmbefmiglpijaaC3d
import Derived.Test.YtfmbefmiglpijaaC3l
import Derived.Test.YtfmbefmiglpijaaC3e
namespace Go.Proofs.Ytfmbefmiglpijaa
open Go.RowKit

theorem drawBurstOf_any (ao : Option Addr) (n cap : Nat) (cs : List Int) (w : World) (hr : RdB w w.heap.size ao n cs) (hn : n ≤ 1048576) :
    Calls Try.prog 32 #[.slice ao n cap] w (Drawn1 2 w) := by
  have HR := Lib.hid hr; clear hr
  go_enter Try.func32, Try.ntmps32
  go_wp2_with fail
  refine (from_any _ _ _ cs _ HR.out hn).mono ?_
  rintro e w1 ⟨p, rfl, hlo, hs1, hb1⟩
  have H : HeldS 2 94 w w1 p [] := HeldS.start hb1 hlo hs1
  clear hlo hs1 hb1
  go_wp2_with fail
  refine (l03Draw_any _ _ H.src).mono ?_
  rintro e w2 ⟨v, xs, rfl, o2, hxl, hs2, g2⟩
  replace H := H.draw o2 hs2 g2
  have hx : xs.length ≤ 9000 := by rcases hxl with h | h; · omega
                                   · exact h.1
  clear hxl o2 hs2 g2
  go_wp2
  go_ret
  exact ⟨_, xs, rfl, H.get 0 rfl, hx, H.below⟩
theorem drawSumErrors_any (ao : Option Addr) (n cap : Nat) (cs : List Int) (w : World) (hr : RdB w w.heap.size ao n cs) (hn : n ≤ 1048576) :
    Calls Try.prog 35 #[.slice ao n cap] w (Drawn2 2 w) := by
  have HR := Lib.hid hr; clear hr
  go_enter Try.func35, Try.ntmps35
  go_wp2_with fail
  refine (drawDifferingBits_any _ _ _ cs _ HR.out hn).mono ?_
  rintro e w1 ⟨v1, xs, v2, ys, rfl, o1, o2, hx, hy, b1⟩
  have O1 := Lib.hid o1
  have O2 := Lib.hid o2
  clear o1 o2
  go_wp2
  go_ret2
  exact ⟨_, xs, _, ys, rfl, O1.out, O2.out, hx, hy, b1⟩

theorem sum_is (ao : Option Addr) (n cap : Nat) (xs : List Int) (T : Int) (w : World) (hr : Rd w ao n xs) (hn : n ≤ 1048576) (hbits : ∀ x ∈ xs, 0 ≤ x ∧ x ≤ 1) (hT : weight xs = T) :
    Calls Try.prog 38 #[.slice ao n cap] w fun e w' => e = .returned (.int .i64 T) ∧ w = w' := by
  rw [← hT]; exact sum_any ao n cap xs w hr hn hbits
theorem wrap_small (x : Int) (h : 0 ≤ x ∧ x ≤ 100000) : wrap64 x = x := by unfold wrap64; omega
theorem wrapK_small (x : Int) (h : 0 ≤ x ∧ x ≤ 100000) : IntKind.i64.wrap x = x := by rw [IntKind.wrap_i64]; omega
theorem Rd.part {w : World} {b off f l m : Nat} {ys : List Int} (h : Rd w (Option.map (fun x => x.add f) (some (⟨b, off, none⟩ : Addr))) l ys) (e : m = l) : Rd w (some ⟨b, off + f, none⟩) m ys := by subst e; simpa [Addr.add_lit] using h
/-- What the walk asks at 'xs[f : f + l]' and at 'xs[f + l - 1]'. -/
theorem slice_facts {f l n c : Nat} (hl : 0 < l) (h : f + l ≤ n) (hn : n ≤ 9000) (hc : n ≤ c) : c ≠ f ∧ (0 : Int) ≤ (f : Int) ∧ (f : Int) ≤ (f : Int) + (l : Int) ∧ (f : Int) + (l : Int) ≤ (c : Int) ∧ (f : Int) < (n : Int) ∧ (0 : Int) ≤ (f : Int) + (l : Int) - 1 ∧
    (f : Int) + (l : Int) - 1 < (n : Int) ∧ ((f : Int) + (l : Int) - 1).toNat = f + l - 1 ∧ f + l - f = l ∧ IntKind.i64.wrap ((f : Int) + (l : Int)) = (f : Int) + (l : Int) ∧ IntKind.i64.wrap ((f : Int) + (l : Int) - 1) = (f : Int) + (l : Int) - 1 ∧
    wrap64 ((f : Int) + (l : Int)) = (f : Int) + (l : Int) ∧ wrap64 ((f : Int) + (l : Int) - 1) = (f : Int) + (l : Int) - 1 := by
  have a1 : (0 : Int) ≤ (f : Int) + (l : Int) ∧ (f : Int) + (l : Int) ≤ 100000 := by omega
  have a2 : (0 : Int) ≤ (f : Int) + (l : Int) - 1 ∧ (f : Int) + (l : Int) - 1 ≤ 100000 := by omega
  exact ⟨by omega, by omega, by omega, by omega, by omega, by omega, by omega, by omega, by omega, wrapK_small _ a1, wrapK_small _ a2, wrap_small _ a1, wrap_small _ a2⟩
/-- What a burst that is found is. -/
theorem burst_get {xs : List Int} {b0 b1 : Int} (h : burstOf xs = (b0, b1, 0)) : ∃ f l : Nat, b0 = (f : Int) ∧ b1 = (l : Int) ∧ 0 < l ∧ f + l ≤ xs.length ∧ xs.getD f 0 = 1 ∧ xs.getD (f + l - 1) 0 = 1 ∧ (∀ x ∈ xs, 0 ≤ x ∧ x ≤ 1) ∧ weight ((xs.drop f).take l) = weight xs := by
  rcases hb : isBits xs with _ | _
  · rw [bo_1 hb] at h; simp at h
  · have hbits := (isBits_iff.1 hb).2
    by_cases hl : (burst xs).2 = 0
    · rw [bo_4 hb hl] at h; simp at h
    · rw [bo_0 hb hl] at h
      simp only [Prod.mk.injEq, and_true] at h
      have hk := burst_ok xs xs.length
      change BurstOk xs xs.length (burst xs).1 (burst xs).2 at hk
      rcases hk with ⟨h1, -, -⟩ | ⟨h1, h2, h3, h4, -⟩
      · omega
      · have e1 := hbits _ (getD_mem' (xs := xs) (k := (burst xs).1) (by omega))
        have e2 := hbits _ (getD_mem' (xs := xs) (k := (burst xs).1 + (burst xs).2 - 1) (by omega))
        exact ⟨_, _, h.1.symm, h.2.symm, h1, h2, by omega, by omega, hbits, (burst_weight xs h1).symm⟩
end Go.Proofs.Ytfmbefmiglpijaa
