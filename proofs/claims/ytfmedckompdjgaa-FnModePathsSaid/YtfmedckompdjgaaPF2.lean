/-
  Chapter 11: the closure of firstStep, slices.IndexFunc over it, firstStep.
-/
import Derived.Test.YtfmedckompdjgaaPF
namespace Go.Proofs.Ytfmedckompdjgaa
open Go.RowKit

/-- The closure's answer: whether a mode is c changes away. -/
def nearBy (t : List Md) (tz : Nat) (c : Int) (j : Int) : Bool := decide (dist t tz j.toNat = c)
/-- Where the closure's captured values lie. -/
structure Caps (w : World) (b p1 p2 p3 p4 : Nat) (ao : Option Addr) (n cap tz : Nat) (c : Int) : Prop where
  c1 : w.cell? ⟨p1, 0, none⟩ = some (.map (some b))
  c2 : w.cell? ⟨p2, 0, none⟩ = some (.slice ao n cap)
  c3 : w.cell? ⟨p3, 0, none⟩ = some (.int .i64 (tz : Int))
  c4 : w.cell? ⟨p4, 0, none⟩ = some (.int .i64 c)
theorem MapAny.no_cell {w : World} {b : Nat} (h : MapAny w b) {a : Addr} {v : Value} (hc : w.cell? a = some v) : a.block ≠ b := by
  obtain ⟨f, n, -, h⟩ := h
  exact h.no_cell hc
theorem MapAny.rdM {w w' : World} {b : Nat} (h : MapAny w b) (hg : w.grownBy w' (some b)) {ao : Option Addr} {m : Nat} {cs : List Mc} (hr : RdM w ao m cs) : RdM w' ao m cs := by
  obtain ⟨f, n, -, h⟩ := h
  exact h.rdM hg hr
theorem MapAny.rd {w w' : World} {b : Nat} (h : MapAny w b) (hg : w.grownBy w' (some b)) {ao : Option Addr} {m : Nat} {xs : List Int} (hr : Rd w ao m xs) : Rd w' ao m xs := by
  obtain ⟨f, n, -, h⟩ := h
  exact h.rd hg hr
theorem MapAny.lt {w : World} {b : Nat} (h : MapAny w b) : b < w.heap.size := by
  obtain ⟨f, n, -, h⟩ := h
  exact h.lt
theorem MapAny.low {w w' : World} {b B : Nat} (h : MapAny w b) (hb : Below B w w') (hlt : b < B) : MapAny w' b := by
  obtain ⟨f, n, hn, h⟩ := h
  exact ⟨f, n, hn, h.low hb hlt⟩
theorem Caps.grown {w w' : World} {b p1 p2 p3 p4 : Nat} {ao : Option Addr} {n cap tz : Nat} {c : Int} (h : Caps w b p1 p2 p3 p4 ao n cap tz c) (hm : MapAny w b) (hg : w.grownBy w' (some b)) : Caps w' b p1 p2 p3 p4 ao n cap tz c := by
  have k : ∀ (p : Nat) (v : Value), w.cell? ⟨p, 0, none⟩ = some v → w'.cell? ⟨p, 0, none⟩ = some v := fun p v hc => hg.cell hc (fun e => hm.no_cell hc (Option.some.inj e))
  exact ⟨k _ _ h.c1, k _ _ h.c2, k _ _ h.c3, k _ _ h.c4⟩
theorem near_yes {t : List Md} {tz : Nat} {c j : Int} (hc : 1 ≤ c) (hto : tz < t.length) :
    ∃ (v : Int) (r : Bool), valf (graphD t j.toNat) (tz : Int) = v ∧ (graphD t j.toNat (tz : Int)).isSome = r ∧ -1 ≤ v ∧ v ≤ t.length ∧ ((r = true ∧ decide (v = c - 1) = nearBy t tz (c - 1) j) ∨ (r = false ∧ nearBy t tz (c - 1) j = false)) := by
  have hg := graphD_in (t := t) (s := j.toNat) (x := (tz : Int)) ⟨by omega, by omega⟩
  rw [Int.toNat_natCast] at hg
  have hle := (show distTo t tz t.length j.toNat ≤ t.length ∧ -1 ≤ distTo t tz t.length j.toNat from dist_le _ _)
  have e : distTo t tz t.length j.toNat = dist t tz j.toNat := rfl
  rw [e] at hle
  by_cases h0 : 0 ≤ dist t tz j.toNat
  · rw [if_pos h0] at hg
    refine ⟨dist t tz j.toNat, true, by unfold valf; rw [hg]; rfl, by rw [hg]; rfl, by omega, by omega, .inl ⟨rfl, rfl⟩⟩
  · rw [if_neg h0] at hg
    refine ⟨0, false, by unfold valf; rw [hg]; rfl, by rw [hg]; rfl, by omega, by omega, .inr ⟨rfl, decide_eq_false (by omega)⟩⟩
set_option maxRecDepth 100000 in
/-- firstStep's closure. -/
theorem stepD_any (b p1 p2 p3 p4 : Nat) (ao : Option Addr) (n cap tz : Nat) (cs : List Mc) (c j : Int) (w : World) (hm : MapAny w b) (hc : Caps w b p1 p2 p3 p4 ao n cap tz c) (hr : RdM w ao n cs) (ht : isModes (mds cs) = true) (hto : tz < n) (hj : 0 ≤ j ∧ j < n) (hcc : 1 ≤ c ∧ c ≤ 16) :
    Calls Try.prog 118 #[.int .i64 j, .pointer (some ⟨p1, 0, none⟩), .pointer (some ⟨p2, 0, none⟩), .pointer (some ⟨p3, 0, none⟩), .pointer (some ⟨p4, 0, none⟩)] w fun e w' => e = .returned (.bool (nearBy (mds cs) tz (c - 1) j)) ∧ MapAny w' b ∧ w.grownBy w' (some b) := by
  have hl : (mds cs).length = n := by rw [mds_len]; exact hr.len
  have hn16 : n ≤ 16 := by have := (isModes_iff.1 ht).1.2; omega
  obtain ⟨v, r, hv, hrr, hv0, hv1, hd⟩ := near_yes (t := mds cs) (tz := tz) (c := c) (j := j) hcc.1 (by rw [hl]; exact hto)
  obtain ⟨s, rfl⟩ : ∃ s : Nat, j = s := ⟨j.toNat, by omega⟩
  rw [Int.toNat_natCast] at hv hrr
  have HC := Lib.hid (changesD_any b ao n cap cs s (tz : Int) w hm hr ht (by omega) (by omega) v r hv hrr)
  have HM := Lib.hid hm; have HCP := Lib.hid hc
  obtain ⟨k1, k2, k3, k4⟩ := hc
  have hw1 : IntKind.i64.wrap (c - 1) = c - 1 := by rw [IntKind.wrap_i64]; omega
  clear hm hr ht hv hrr hl
  rcases hd with ⟨rfl, hd⟩ | ⟨rfl, hd⟩
  · rw [← hd]
    clear hd
    go_enter Try.func118, Try.ntmps118
    go_wp2_with fail
    refine HC.out.mono ?_
    rintro e w1 ⟨rfl, hm1, hg1⟩
    obtain ⟨-, -, -, k4'⟩ := HCP.out.grown HM.out hg1
    have HM1 := Lib.hid hm1; have HG1 := Lib.hid hg1
    clear hm1 hg1 k1 k2 k3 k4
    go_wp2_with fail
    go_ret
    exact ⟨ret_bool (by by_cases e : v = c - 1 <;> simp [e]), ⟨_, HM1.out⟩, HG1.out⟩
  · rw [hd]
    clear hd
    go_enter Try.func118, Try.ntmps118
    go_wp2_with fail
    refine HC.out.mono ?_
    rintro e w1 ⟨rfl, hm1, hg1⟩
    have HM1 := Lib.hid hm1; have HG1 := Lib.hid hg1
    clear hm1 hg1 k1 k2 k3 k4
    go_wp2_with fail
    go_ret
    exact ⟨rfl, ⟨_, HM1.out⟩, HG1.out⟩
theorem find_next {p : Int → Bool} {xs : List Int} {k : Nat} (hk : k < xs.length) (h : (xs.take k).find? p = none) (hp : p (xs.getD k 0) = false) : (xs.take (k + 1)).find? p = none := by
  rw [take_succ' xs k hk, List.find?_append, h]
  simp only [List.find?_cons, List.find?_nil, Option.none_or, hp]
theorem find_atk {p : Int → Bool} {xs : List Int} {k : Nat} (hk : k < xs.length) (h : (xs.take k).find? p = none) (hp : p (xs.getD k 0) = true) : xs.find? p = some (xs.getD k 0) := by
  have e : xs.find? p = (xs.take (k + 1) ++ xs.drop (k + 1)).find? p := by rw [List.take_append_drop]
  rw [e, List.find?_append, take_succ' xs k hk, List.find?_append, h]
  simp only [List.find?_cons, Option.none_or, hp, Option.some_or]
set_option maxHeartbeats 1000000 in
set_option maxRecDepth 100000 in
/-- slices.IndexFunc over the closure, where one is found. -/
theorem indexD_any (b p1 p2 p3 p4 : Nat) (ao : Option Addr) (n cap tz : Nat) (cs : List Mc) (c : Int) (xo : Option Addr) (xcap : Nat) (xs : List Int) (w : World) (hm : MapAny w b) (hc : Caps w b p1 p2 p3 p4 ao n cap tz c) (hr : RdM w ao n cs) (ht : isModes (mds cs) = true) (hto : tz < n) (hcc : 1 ≤ c ∧ c ≤ 16)
    (hx : Rd w xo xs.length xs) (hxl : xs.length ≤ 16) (hxb : ∀ j ∈ xs, 0 ≤ j ∧ j < n) (hex : xs.find? (nearBy (mds cs) tz (c - 1)) ≠ none) :
    Calls Try.prog 117 #[.slice xo xs.length xcap, .func (.func 118) #[] #[.pointer (some ⟨p1, 0, none⟩), .pointer (some ⟨p2, 0, none⟩), .pointer (some ⟨p3, 0, none⟩), .pointer (some ⟨p4, 0, none⟩)]] w fun e w' => ∃ k : Nat, e = .returned (.int .i64 (k : Int)) ∧ k < xs.length ∧ xs.find? (nearBy (mds cs) tz (c - 1)) = some (xs.getD k 0) ∧ MapAny w' b ∧ w.grownBy w' (some b) := by
  have HM := Lib.hid hm; have HC := Lib.hid hc; have HR := Lib.hid hr; have HT := Lib.hid ht; have HX := Lib.hid hx; have HXB := Lib.hid hxb; have HEX := Lib.hid hex
  clear hm hc hr ht hx hxb hex
  go_enter Try.func117, Try.ntmps117
  go_wp2
  go_loopw [8] (fun i wr => ∃ k : Nat, k ≤ xs.length ∧ i = .int .i64 k ∧ MapAny wr b ∧ w.grownBy wr (some b) ∧ Hid ((xs.take k).find? (nearBy (mds cs) tz (c - 1)) = none)) (fun i _ => xs.length - (intOf i).toNat)
  case atStart => exact ⟨0, Nat.zero_le _, rfl, HM.out, ⟨rfl, rfl, rfl, Nat.le_refl _, fun _ _ _ => rfl⟩, rfl⟩
  case round =>
    obtain ⟨k, hk, rfl, hm, hg, hall⟩ := hrel
    by_cases hlt : k < xs.length
    · have hx := HM.out.rd hg HX.out
      obtain ⟨g, off, rfl, hcx⟩ := hx.here (by omega)
      have ck := hcx k hlt
      have hyb := HXB.out (xs.getD k 0) (getD_memR hlt)
      have hno := find_next hlt hall.out
      have hyes := find_atk hlt hall.out
      obtain ⟨y, hy⟩ : ∃ y, y = xs.getD k 0 := ⟨_, rfl⟩
      rw [← hy] at ck hyb hno hyes
      have HNO := Lib.hid hno; have HYES := Lib.hid hyes; have HG := Lib.hid hg
      have HCALL := Lib.hid (stepD_any b p1 p2 p3 p4 ao n cap tz cs c y wr hm (HC.out.grown HM.out hg) (HM.out.rdM hg HR.out) HT.out hto hyb hcc)
      have HY := Lib.hid hy
      clear hno hyes hm hg hx hcx hall hy
      have hki : (k : Int) < (xs.length : Int) := by omega
      rcases hd : nearBy (mds cs) tz (c - 1) y with _ | _
      · go_wp2_with (go_at_call 118; refine HCALL.out.mono ?_; rintro e w1 ⟨rfl, m1, g1⟩; rw [hd])
        go_roundw
        case rel => exact ⟨k + 1, by omega, by go_num, m1, grown_trans HG.out g1, HNO.out hd⟩
        case measure => simp [intOf]; omega
      · go_wp2_with (go_at_call 118; refine HCALL.out.mono ?_; rintro e w1 ⟨rfl, m1, g1⟩; rw [hd])
        go_ret
        exact ⟨k, rfl, hlt, by rw [HYES.out hd, HY.out], m1, grown_trans HG.out g1⟩
    · have hkn : k = xs.length := by omega
      subst hkn
      have := hall.out
      rw [List.take_length] at this
      exact absurd this HEX.out
end Go.Proofs.Ytfmedckompdjgaa
