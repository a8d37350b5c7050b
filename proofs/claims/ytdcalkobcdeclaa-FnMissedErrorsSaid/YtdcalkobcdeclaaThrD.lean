/-
  Chapter 3: spec.DrawOrderOf; what FnOrders says.
  Chapter 3: spec.l03Draw and what stands on it; laws.sum.
  Chapter 3: the draws of FnBursts; what it says.
  Chapter 3: spec.DrawLeastWeight, DrawFirstMissed; what FnLeastMissed says.
  Chapter 3: spec.DrawFirstMissed; what FnLeastMissed says.
  Chapter 3: spec.DrawIsMissed, DrawIsFound.
  Chapter 3: spec.DrawIsFound; what FnFound says.
-/
import Derived.Test.YtdcalkobcdeclaaThr
import Derived.Test.YtdcalkobcdeclaaDrawC
import Derived.Test.YtdcalkobcdeclaaLawC
import Derived.Test.YtdcalkobcdeclaaDrawB
import Derived.Test.YtdcalkobcdeclaaOneB
import Derived.Deep.OwnRows
namespace Go.Proofs.Ytdcalkobcdeclaa
section
open Go.RowKit

/-- What a draw of a code alone leaves. -/
def DrawnC (w : World) (e : Ending) (w' : World) : Prop :=
  ∃ wd pl : Int, e = .returned (.agg #[.int .i64 wd, .int .i64 pl]) ∧ Below w.heap.size w w'
theorem own_rd {E base n cap : Nat} {w : World} {ao : Option Addr} {xs : List Int} (h : Own E w base (.slice ao n cap) xs) : Rd w ao n xs := by
  obtain ⟨ao', cap', e, o, r⟩ := h.get
  cases e
  exact r
/-- What an order that is found is. -/
theorem order_get {wd p r0 : Int} (h : orderOf wd p = (r0, 0)) : ∃ (W : Nat) (g : BitVec W) (N : Nat), wd = (W : Int) ∧ p = (g.toNat : Int) ∧ r0 = (N : Int) ∧ 3 ≤ W ∧ W ≤ 24 ∧ g.getLsbD 0 = true ∧ 1 ≤ N ∧ N ≤ 5000 ∧ tail g N = g ∧ ∀ m, 1 ≤ m → m < N → tail g m ≠ g := by
  rcases hI : isCrc wd p with _ | _
  · rw [orderOf_1 hI] at h; simp at h
  · obtain ⟨W, g, rfl, h1, h2, rfl, hg⟩ := isCrc_get hI
    rw [orderOf_0 hI] at h
    by_cases hl : order g ≤ 5000
    · rw [if_pos hl] at h
      have ho : 1 ≤ order g := (ord_le 5000 1).1
      refine ⟨W, g, order g, rfl, rfl, (congrArg Prod.fst h).symm, h1, h2, hg, ho, hl, ord_at 5000 1 (by show order g < 1 + 5000; omega), fun m h3 h4 => ord_before 5000 1 m h3 h4⟩
    · rw [if_neg hl] at h; simp at h
theorem pair_set {W : Nat} {g : BitVec W} (h1 : 3 ≤ W) (h2 : W ≤ 24) (hg : g.getLsbD 0 = true) (N : Nat) (hN : 1 ≤ N) (hM : N ≤ 5000) : isMissed (W : Int) (g.toNat : Int) (((List.replicate (N + 1) (0 : Int)).set 0 1).set N 1) = decide (tail g N = g) := by
  obtain ⟨n, rfl⟩ : ∃ n, N = n + 1 := ⟨N - 1, by omega⟩
  rw [pair_list, pair_isMissed h1 h2 hg n (by omega)]
end

section
open Go.RowKit

/-- What a draw of an error list leaves: a short list, or one of noughts alone. -/
def DrawnErr (E T : Nat) (w : World) (p : Nat) (m : Int) (e : Ending) (w' : World) : Prop :=
  ∃ v xs, e = .returned v ∧ Own E w' w.heap.size v xs ∧ ((xs.length : Int) ≤ m ∨ xs.length ≤ 9000 ∧ ∀ x ∈ xs, x = 0) ∧ Src T w' p ∧ w.grownBy w' (some p)
/-- laws.sum. -/
theorem sum_any (ao : Option Addr) (n cap : Nat) (xs : List Int) (w : World) (hr : Rd w ao n xs) (hn : n ≤ 1048576) (hbits : ∀ x ∈ xs, 0 ≤ x ∧ x ≤ 1) :
    Calls Try.prog 41 #[.slice ao n cap] w fun e w' => e = .returned (.int .i64 (weight xs)) ∧ w = w' := by
  obtain ⟨hlen, hat⟩ := hr
  have HL := Lib.hid hlen; clear hlen
  have HA := Lib.hid hat; clear hat
  have HZ := Lib.hid hbits; clear hbits
  go_enter Try.func41, Try.ntmps41
  go_wp2
  go_loop [3, 4] (fun v i => ∃ (k : Nat) (y : Int), k ≤ n ∧ i = .int .i64 k ∧ v = .int .i64 y ∧ 0 ≤ y ∧ y ≤ k ∧ Hid (weight (xs.take k) = y)) (fun _ i => n - (intOf i).toNat)
  case atStart => exact ⟨0, 0, Nat.zero_le _, rfl, rfl, by omega, by omega, rfl⟩
  case round =>
    obtain ⟨k, y, hk, rfl, rfl, hy0, hy1, HY⟩ := hrel
    by_cases hlt : k < n
    · obtain ⟨b, off, rfl, hall⟩ := HA.out (by omega)
      have hck := hall k hlt
      clear hall
      have hkx : k < xs.length := by rw [HL.out]; exact hlt
      have hb0 := HZ.out (xs.getD k 0) (getD_mem' hkx)
      have hfin : weight (xs.take (k + 1)) = y + xs.getD k 0 := by rw [weight_take xs k hkx, HY.out]
      obtain ⟨x, hx⟩ : ∃ x, x = xs.getD k 0 := ⟨_, rfl⟩
      rw [← hx] at hck hb0 hfin
      obtain ⟨hb0, hb1⟩ := hb0
      have HF := Lib.hid hfin; clear hfin hx hkx HY HZ HL HA
      go_wp2
      go_round
      case rel => exact ⟨k + 1, y + x, by omega, by go_num, rfl, by omega, by omega, HF⟩
      case measure => simp [intOf]; omega
    · have hkn : k = n := by omega
      subst hkn
      have hfin : y = weight xs := by rw [← HY.out, List.take_of_length_le (by rw [HL.out]; exact Nat.le_refl _)]
      have HF := Lib.hid hfin; clear hfin
      go_wp2
      go_ret
      exact ⟨ret_int HF.out, rfl⟩
end

section
open Go.RowKit

theorem sum_is (ao : Option Addr) (n cap : Nat) (xs : List Int) (T : Int) (w : World) (hr : Rd w ao n xs) (hn : n ≤ 1048576) (hbits : ∀ x ∈ xs, 0 ≤ x ∧ x ≤ 1) (hT : weight xs = T) :
    Calls Try.prog 41 #[.slice ao n cap] w fun e w' => e = .returned (.int .i64 T) ∧ w = w' := by
  rw [← hT]; exact sum_any ao n cap xs w hr hn hbits
theorem wrap_small (x : Int) (h : 0 ≤ x ∧ x ≤ 100000) : wrap64 x = x := by unfold wrap64; omega
theorem wrapK_small (x : Int) (h : 0 ≤ x ∧ x ≤ 100000) : IntKind.i64.wrap x = x := by rw [IntKind.wrap_i64]; omega
theorem Rd.part {w : World} {b off f l m : Nat} {ys : List Int} (h : Rd w (Option.map (fun x => x.add f) (some (⟨b, off, none⟩ : Addr))) l ys) (e : m = l) : Rd w (some ⟨b, off + f, none⟩) m ys := by subst e; simpa [Addr.add_lit] using h
/-- What the walk asks at 'xs[f : f + l]' and at 'xs[f + l - 1]'. -/
theorem slice_facts {f l n c : Nat} (hl : 0 < l) (h : f + l ≤ n) (hn : n ≤ 9000) (hc : n ≤ c) : c ≠ f ∧ (0 : Int) ≤ (f : Int) ∧ (f : Int) ≤ (f : Int) + (l : Int) ∧ (f : Int) + (l : Int) ≤ (c : Int) ∧ (f : Int) < (n : Int) ∧ (0 : Int) ≤ (f : Int) + (l : Int) - 1 ∧
    (f : Int) + (l : Int) - 1 < (n : Int) ∧ ((f : Int) + (l : Int) - 1).toNat = f + l - 1 ∧ f + l - f = l ∧ IntKind.i64.wrap ((f : Int) + (l : Int)) = (f : Int) + (l : Int) ∧ IntKind.i64.wrap ((f : Int) + (l : Int) - 1) = (f : Int) + (l : Int) - 1 ∧
    wrap64 ((f : Int) + (l : Int)) = (f : Int) + (l : Int) ∧ wrap64 ((f : Int) + (l : Int) - 1) = (f : Int) + (l : Int) - 1 := by
  have a1 : (0 : Int) ≤ (f : Int) + (l : Int) ∧ (f : Int) + (l : Int) ≤ 100000 := by omega
  have a2 : (0 : Int) ≤ (f : Int) + (l : Int) - 1 ∧ (f : Int) + (l : Int) - 1 ≤ 100000 := by omega
  exact ⟨by omega, by omega, by omega, by omega, by omega, by omega, by omega, by omega, by omega, wrapK_small _ a1, wrapK_small _ a2, wrap_small _ a1, wrap_small _ a2⟩
/-- What a burst that is found is. -/
theorem burst_get {xs : List Int} {b0 b1 : Int} (h : burstOf xs = (b0, b1, 0)) : ∃ f l : Nat, b0 = (f : Int) ∧ b1 = (l : Int) ∧ 0 < l ∧ f + l ≤ xs.length ∧ xs.getD f 0 = 1 ∧ xs.getD (f + l - 1) 0 = 1 ∧ (∀ x ∈ xs, 0 ≤ x ∧ x ≤ 1) ∧ weight ((xs.drop f).take l) = weight xs := by
  rcases hb : isBits xs with _ | _
  · rw [bo_1 hb] at h; simp at h
  · have hbits := (isBits_iff.1 hb).2
    by_cases hl : (burst xs).2 = 0
    · rw [bo_4 hb hl] at h; simp at h
    · rw [bo_0 hb hl] at h
      simp only [Prod.mk.injEq, and_true] at h
      have hk := burst_ok xs xs.length
      change BurstOk xs xs.length (burst xs).1 (burst xs).2 at hk
      rcases hk with ⟨h1, -, -⟩ | ⟨h1, h2, h3, h4, -⟩
      · omega
      · have e1 := hbits _ (getD_mem' (xs := xs) (k := (burst xs).1) (by omega))
        have e2 := hbits _ (getD_mem' (xs := xs) (k := (burst xs).1 + (burst xs).2 - 1) (by omega))
        exact ⟨_, _, h.1.symm, h.2.symm, h1, h2, by omega, by omega, hbits, (burst_weight xs h1).symm⟩
end

section
open Go.RowKit

/-- What a draw of a code and a number leaves. -/
def DrawnCI (w : World) (e : Ending) (w' : World) : Prop :=
  ∃ wd pl sp : Int, e = .returned (.tuple #[.agg #[.int .i64 wd, .int .i64 pl], .int .i64 sp]) ∧ Below w.heap.size w w'
def tab4 (a b c d : Int) (z : Nat) : Int := if z = 0 then a else if z = 1 then b else if z = 2 then c else d
theorem tab4_arr (a b c d : Int) (z : Nat) (hz : z < 4) : (#[.int .i64 a, .int .i64 b, .int .i64 c, .int .i64 d] : Array Value)[z]? = some (.int .i64 (tab4 a b c d z)) := by
  match z, hz with
  | 0, _ | 1, _ | 2, _ | 3, _ => rfl
theorem tab4_cell {w w' : World} {T p : Nat} {a b c d : Int} (hg : (w.alloc (.cells #[.int .i64 a, .int .i64 b, .int .i64 c, .int .i64 d] T)).grownBy w' (some p)) (hp : p < w.heap.size) (z : Nat) (hz : z < 4) : w'.cell? ⟨w.heap.size, z, none⟩ = some (.int .i64 (tab4 a b c d z)) := by
  rw [table_cell hg hp z]; exact tab4_arr a b c d z hz

theorem tab4_late {R : Nat} {a b : Value} (z : Nat) (hz : z < 4) (T : Nat) (w : World) : (((w.setCell ⟨R, 0, none⟩ a).setCell ⟨R, 1, none⟩ b).alloc (.cells #[.int .i64 0, .int .i64 1, .int .i64 64, .int .i64 65] T)).cell? ⟨w.heap.size, z, none⟩ = some (.int .i64 (tab4 0 1 64 65 z)) := by
  have e : ((w.setCell ⟨R, 0, none⟩ a).setCell ⟨R, 1, none⟩ b).heap.size = w.heap.size := by simp [World.setCell]
  rw [World.cell?_alloc_at _ _ _ _ e.symm]; exact tab4_arr 0 1 64 65 z hz
theorem cell_far {w : World} {b i R : Nat} {a0 a1 v : Value} (hne : b ≠ R) (h : w.cell? ⟨b, i, none⟩ = some v) : ((w.setCell ⟨R, 0, none⟩ a0).setCell ⟨R, 1, none⟩ a1).cell? ⟨b, i, none⟩ = some v := by
  rw [World.cell?_of_block (a := ⟨b, i, none⟩) ((heap_setCell_other (w.setCell ⟨R, 0, none⟩ a0) ⟨R, 1, none⟩ b a1 (by simpa using hne)).trans (heap_setCell_other w ⟨R, 0, none⟩ b a0 (by simpa using hne)))]
  exact h
theorem tab4_list (z : Nat) (hz : z < 4) : ([.int .i64 0, .int .i64 1, .int .i64 64, .int .i64 65] : List Value)[z]? = some (.int .i64 (tab4 0 1 64 65 z)) := by
  match z, hz with
  | 0, _ | 1, _ | 2, _ | 3, _ => rfl
theorem tab4_alloc (z : Nat) (hz : z < 4) (T : Nat) : ∀ W : World, (W.alloc (.cells #[.int .i64 0, .int .i64 1, .int .i64 64, .int .i64 65] T)).cell? ⟨W.heap.size, z, none⟩ = some (.int .i64 (tab4 0 1 64 65 z)) := fun W => by
  rw [World.cell?_alloc_at _ _ _ _ rfl]; exact tab4_arr 0 1 64 65 z hz

end

section
open Go.RowKit

theorem HeldC.first {E T : Nat} {w w1 : World} {x y : Int} (b : Below w.heap.size w w1) : HeldC E T w (w1.alloc (.cells #[.int .i64 x, .int .i64 y] T)) w1.heap.size x y [] := ⟨Held.start.still (b.alloc b.size _), StructAt.new w1⟩
/-- Where nothing is found the least weight is 4. -/
theorem least_four {wd p sp : Int} {l : List Int} (h : firstOf wd p sp = (l, 4)) : leastOf wd p sp = (4, 0) := by
  by_cases hs : spanCode wd p sp = 0
  · obtain ⟨hI, hr⟩ := spanCode_get hs
    obtain ⟨W, g, rfl, h1, h2, rfl, hg⟩ := isCrc_get hI
    obtain ⟨n, rfl⟩ := Int.eq_ofNat_of_zero_le (show 0 ≤ sp by omega)
    by_cases hf : firstMissed g n = []
    · exact lo_4 hs hf
    · rw [fo_0 hs hf] at h; simp at h
  · rw [fo_code hs] at h
    simp only [Prod.mk.injEq] at h
    have hc : spanCode wd p sp = 1 ∨ spanCode wd p sp = 2 := by
      rcases hI : isCrc wd p with _ | _
      · exact .inl (spanCode_1 hI)
      · by_cases h2 : 1 ≤ sp ∧ sp ≤ 64
        · exact absurd (spanCode_0 hI h2) hs
        · exact .inr (spanCode_2 hI h2)
    omega
theorem leastOf_nat {W : Nat} {g : BitVec W} (h1 : 3 ≤ W) (h2 : W ≤ 24) (hg : g.getLsbD 0 = true) (n : Nat) (hn : 1 ≤ n) (hn2 : n ≤ 64) : leastOf (W : Int) (g.toNat : Int) (n : Int) = ((leastWeight g n : Int), 0) := by
  have hs := spanCode_0 (span := (n : Int)) (isCrc_put h1 h2 hg) (by omega)
  by_cases hf : firstMissed g n = []
  · rw [lo_4 hs hf]; unfold leastWeight; rw [hf]; rfl
  · rw [lo_0 hs hf]; unfold leastWeight; rw [if_neg (by simpa using hf)]
/-- What a first missed error that is found is. -/
theorem least_round {wd p sp q0 q1 : Int} {l : List Int} (h : firstOf wd p sp = (l, 0)) (hq : leastOf wd p sp = (q0, q1)) : ∃ (W : Nat) (g : BitVec W) (n : Nat) (es : List Int), wd = (W : Int) ∧ p = (g.toNat : Int) ∧ sp = (n : Int) ∧ 1 ≤ n ∧ n ≤ 64 ∧ q0 = (l.length : Int) ∧
    flipBits (List.replicate n 0) l = (es, 0) ∧ es.length ≤ 8192 ∧ isMissed (W : Int) (g.toNat : Int) es = true ∧ (1 < n → ∃ q : Int, leastOf (W : Int) (g.toNat : Int) (((n - 1 : Nat)) : Int) = (q, 0) ∧ (l.length : Int) ≤ q) := by
  by_cases hs : spanCode wd p sp = 0
  · obtain ⟨hI, hr⟩ := spanCode_get hs
    obtain ⟨W, g, rfl, h1, h2, rfl, hg⟩ := isCrc_get hI
    obtain ⟨n, rfl⟩ := Int.eq_ofNat_of_zero_le (show 0 ≤ sp by omega)
    by_cases hf : firstMissed g n = []
    · rw [fo_4 hs hf] at h; simp at h
    · rw [fo_0 hs hf] at h
      rw [lo_0 hs hf] at hq
      simp only [Prod.mk.injEq, and_true] at h hq
      subst h
      obtain ⟨es, e1, e2, e3, e4⟩ := first_round hg (span := n) (by omega) hf
      refine ⟨W, g, n, es, rfl, rfl, rfl, by omega, by omega, hq.1.symm, e1, (isBits_iff.1 e2).1, ?_, fun hn => ⟨(leastWeight g (n - 1) : Int), leastOf_nat h1 h2 hg (n - 1) (by omega) (by omega), ?_⟩⟩
      · unfold isMissed
        rw [hI, e2, decide_eq_true e3, crcRaw_zero, decide_eq_true ((regOf_zero g es).2 e4)]; rfl
      · have hm := least_mono hg (n - 1)
        rw [show n - 1 + 1 = n from by omega] at hm
        have hw : leastWeight g n = (firstMissed g n).length := by unfold leastWeight; rw [if_neg (by simpa using hf)]
        omega
  · rw [fo_code hs] at h
    simp only [Prod.mk.injEq] at h
    exact absurd h.2 hs
end

section
open Go.RowKit

/-- What a draw of a code and an error list leaves: a short list, or one of noughts alone. -/
def DrawnCE (E : Nat) (w : World) (e : Ending) (w' : World) : Prop :=
  ∃ (wd pl : Int) (v : Value) (xs : List Int), e = .returned (.tuple #[.agg #[.int .i64 wd, .int .i64 pl], v]) ∧ Own E w' w.heap.size v xs ∧ ((xs.length : Int) ≤ 62 ∨ xs.length ≤ 9000 ∧ ∀ x ∈ xs, x = 0) ∧ Below w.heap.size w w'
theorem make44 (w : World) : (Instr.makeSlice 34 (.int .i64 44) (.int .i64 44)).run Try.prog w = .ok (.slice (some ⟨w.heap.size, 0, none⟩) 44 44) (w.alloc (.cells (madeCells #[Value.int .i64 0] 44) 2)) :=
  run_make_row' 34 2 (.int .i64 0) 8 Try.underlying34 info64 rfl .i64 .i64 44 (by omega) (by omega) w
theorem rdMade (n : Nat) (w : World) : Rd (w.alloc (.cells (madeCells #[Value.int .i64 0] n) 2)) (some ⟨w.heap.size, 0, none⟩) n (List.replicate n 0) :=
  ⟨by simp, fun _ => ⟨w.heap.size, 0, rfl, fun i hi => by
    rw [World.cell?_alloc_at _ _ _ _ rfl]
    have e : (madeCells #[Value.int .i64 0] n) = Array.replicate n (Value.int .i64 0) := by
      apply Array.ext'
      rw [toList_madeCells_one]; simp
    rw [e]
    simp [hi, List.getD]⟩⟩
theorem rd44 (w : World) : Rd (w.alloc (.cells (madeCells #[Value.int .i64 0] 44) 2)) (some ⟨w.heap.size, 0, none⟩) 44 (List.replicate 44 0) := rdMade 44 w
/-- Ones within a span are strictly increasing indices of a longer list. -/
theorem first_rises {wd p sp : Int} {l : List Int} (h : firstOf wd p sp = (l, 0)) (hs : sp ≤ 44) : rises 44 l = true := by
  by_cases hc : spanCode wd p sp = 0
  · obtain ⟨hI, hr⟩ := spanCode_get hc
    obtain ⟨W, g, rfl, h1, h2, rfl, hg⟩ := isCrc_get hI
    obtain ⟨n, rfl⟩ := Int.eq_ofNat_of_zero_le (show 0 ≤ sp by omega)
    by_cases hf : firstMissed g n = []
    · rw [fo_4 hc hf] at h; simp at h
    · rw [fo_0 hc hf] at h
      have h : firstMissed g n = l := congrArg Prod.fst h
      rcases firstMissed_cases hg n with ⟨i, k, a1, a2, a3, -⟩ | ⟨-, i, k, j, a1, a2, a3, a4, -⟩ | ⟨-, -, a⟩
      · rw [← h, a3]
        refine rises_iff.2 fun m hm => ?_
        match m, hm with
        | 0, _ => exact ⟨by rw [prev_zero]; simp; omega, by simp; omega⟩
        | 1, _ => exact ⟨by rw [prev_succ]; simp; omega, by simp; omega⟩
      · rw [← h, a4]
        refine rises_iff.2 fun m hm => ?_
        match m, hm with
        | 0, _ => exact ⟨by rw [prev_zero]; simp; omega, by simp; omega⟩
        | 1, _ => exact ⟨by rw [prev_succ]; simp; omega, by simp; omega⟩
        | 2, _ => exact ⟨by rw [prev_succ]; simp; omega, by simp; omega⟩
      · exact absurd a hf
  · rw [fo_code hc] at h
    simp only [Prod.mk.injEq] at h
    exact absurd h.2 hc
theorem l01Flip_at (ao bo : Option Addr) (n m cap cap' : Nat) (xs ids : List Int) (w : World) (hr : Rd w ao n xs) (hr' : Rd w bo m ids) (hn : n ≤ 1048576) (hn' : m ≤ 1048576) (hbits : ∀ x ∈ xs, 0 ≤ x ∧ x ≤ 1) (hs : rises (n : Int) ids = true) :
    Calls Try.prog 101 #[.slice ao n cap, .slice bo m cap'] w (Makes 2 w (flips xs ids)) := by
  obtain rfl := hr.len
  obtain rfl := hr'.len
  exact l01Flip_any ao bo cap cap' xs ids w hr hr' hn hn' hbits hs
/-- At a step of a region: an append of a whole slice onto one of the call's own. -/
theorem step_append_list {P : Program} {E T : Nat} {w : World} {ops : Array Oper} {o : Oper} {a : Act} {K : Act → World → Prop} {Q : Exit → Act → World → Prop} {E' : Prop} (hgd : o.guard = none) (s x : Operand)
    (ho : o.op = .call { callee := .builtin .append, args := #[s, x], argTypes := #[T, T] })
    (base : Nat) (ht : P.underlying T = some (.slice E)) (hi : Info64 P E)
    (v : Value) (xs : List Int) (hs : a.eval s = v) (hown : Own E w base v xs) (b off : Nat) (ys : List Int) (m c : Nat) (hx : a.eval x = .slice (some ⟨b, off, none⟩) m c) (hr : Rd w (some ⟨b, off, none⟩) m ys) (hm : 0 < m)
    (hlen : xs.length + m ≤ 4294967296) (hbase : base ≤ w.heap.size)
    (h : ∀ v' w', Own E w' base v' (xs ++ ys) → Below base w w' → K (a.put o.dst v') w') : if Region.wanted o (yielded ops a.tmps) = true then Oper.wp P o a w K Q else E' := by
  obtain ⟨i0, hi, hz0, hz1, hz2⟩ := info_parts hi
  have hyl := hr.len
  refine step_append_lies w hgd s x T ho base E i0 (.int .i64 0) 1 8 ht hi hz0 hz1 hz2 rfl (by decide) v xs.length _ hs hown ⟨b, off, none⟩ m c (ys.map (Value.int .i64)) hx (by simp; exact hyl) ?_ ?_ hm (by unfold maxLen; omega) (by omega) hbase w.heap.size rfl ?_
  · intro j u hj
    obtain ⟨b', off', e, hc⟩ := hr.here hm
    cases e
    rw [List.getElem?_map] at hj
    rcases hg : ys[j]? with _ | y
    · rw [hg] at hj; cases hj
    · rw [hg] at hj
      have hjl : j < m := by rw [← hyl]; exact (List.getElem?_eq_some_iff.1 hg).1
      have h1 := hc j hjl
      rw [show ys.getD j 0 = y from by simp [List.getD, hg]] at h1
      rw [Addr.add_lit, h1]; exact hj
  · intro u hu
    obtain ⟨y, -, rfl⟩ := List.mem_map.1 hu
    rfl
  · intro g cap w' h1 h2 _ _
    refine h _ w' ?_ ((Below.refl _ _).grown h2 hbase fun k hk => (hown.block k hk).1)
    unfold Own
    simpa [hyl] using h1
theorem own_one {E base : Nat} {w : World} (hb : base ≤ w.heap.size) (a : Int) : Own E (w.alloc (.cells #[.int .i64 a] E)) base (.slice (some ⟨w.heap.size, 0, none⟩) 1 1) [a] :=
  ⟨rfl, .inr ⟨w.heap.size, 1, _, rfl, hb, heap_alloc_new w _, by simp, by unfold maxLen; omega, rfl, rfl⟩⟩

end

section
open Go.RowKit

/-- At every list that is drawn the program's answer is the model's. -/
theorem found_same {wd pl : Int} {xs : List Int} (h : (xs.length : Int) ≤ 62 ∨ xs.length ≤ 9000 ∧ ∀ x ∈ xs, x = 0) : isFoundI wd pl xs = isFound wd pl xs ∧ xs.length ≤ 9000 := by
  rcases h with h | ⟨h1, h2⟩
  · exact ⟨isFound_same (by omega), by omega⟩
  · refine ⟨isFound_zero ?_, h1⟩
    have e : xs = List.replicate xs.length 0 := List.eq_replicate_iff.2 ⟨rfl, h2⟩
    rw [e, weight_zeros]
end
end Go.Proofs.Ytdcalkobcdeclaa
