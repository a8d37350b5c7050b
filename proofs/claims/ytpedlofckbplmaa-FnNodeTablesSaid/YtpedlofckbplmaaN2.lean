/-
  Chapter 10: node tables recognised, by the program and by its model.
-/
import Derived.Test.YtpedlofckbplmaaN1
import Derived.BigQuiet
namespace Go.Proofs.Ytpedlofckbplmaa
open Go.RowKit

theorem hmfunc : ∀ (fn : Fn) (first cap : Array Value) (w : World), (Instr.makeFunc fn first cap).run Try.prog w = .ok (.func fn first cap) w := fun _ _ _ _ => rfl
def hasNm (t : List Nd) (s : ByteArray) : Bool := t.any fun x => decide (x.name = s)
theorem ndOf_getD (t : List Nd) (k : Nat) (h : k < t.length) : t.take (k + 1) = t.take k ++ [ndOf t k] := by
  rw [List.take_add_one, List.getElem?_eq_getElem h, ndOf_get h]; rfl
theorem hasNm_succ {t : List Nd} {s : ByteArray} {k : Nat} (h : k < t.length) (h1 : hasNm (t.take k) s = false) (h2 : decide ((ndOf t k).name = s) = false) : hasNm (t.take (k + 1)) s = false := by
  unfold hasNm at h1 ⊢
  rw [ndOf_getD t k h, List.any_append, h1]
  simp only [List.any_cons, List.any_nil, h2, Bool.or_false]
theorem hasNm_yes {t : List Nd} {s : ByteArray} {k : Nat} (h : k < t.length) (h2 : decide ((ndOf t k).name = s) = true) : hasNm t s = true := by
  unfold hasNm
  rw [List.any_eq_true]
  exact ⟨ndOf t k, ndOf_mem h, h2⟩
/-- impl.hasName's closure: whether an entry has the name that lies in block b. -/
theorem hasNm1_any (b : Nat) (s : ByteArray) (x : Nd) (w : World) (hc : w.cell? ⟨b, 0, none⟩ = some (.string s)) :
    Calls Try.prog 105 #[ndVal x, .pointer (some ⟨b, 0, none⟩)] w fun e w' => e = .returned (.bool (decide (x.name = s))) ∧ Below w.heap.size w w' := by
  have hb := Lib.bytes_beq_iff x.name s
  have hlt : b < w.heap.size := World.block_lt_of_cell? w _ hc
  have hc2 := fun o => World.cell?_alloc_old w o ⟨b, 0, none⟩ (Nat.ne_of_lt hlt)
  unfold ndVal
  have hd : (x.name.toList == s.toList) = decide (x.name = s) := by rw [Bool.eq_iff_iff, hb, decide_eq_true_eq]
  clear hb
  go_enter Try.func105, Try.ntmps105
  go_wp2
  go_ret
  exact ⟨rfl, (Below.refl _ _).alloc (Nat.le_refl _) _⟩
theorem indexNd_any (ao : Option Addr) (n cap b : Nat) (t : List Nd) (s : ByteArray) (w : World) (hr : RdN w ao n t) (hn : n ≤ 9223372036854775807) (hcs : w.cell? ⟨b, 0, none⟩ = some (.string s)) :
    Calls Try.prog 128 #[.slice ao n cap, .func (.func 105) #[] #[.pointer (some ⟨b, 0, none⟩)]] w fun e w' => ∃ r : Int, e = .returned (.int .i64 r) ∧ -1 ≤ r ∧ decide (0 ≤ r) = hasNm t s ∧ Below w.heap.size w w' := by
  have HL := Lib.hid hr.len
  have HR := Lib.hid hr; clear hr
  have hlt0 : b < w.heap.size := World.block_lt_of_cell? w _ hcs
  have HC := Lib.hid hcs; clear hcs
  go_enter Try.func128, Try.ntmps128
  go_wp2
  go_loopw [8] (fun i wr => ∃ k : Nat, k ≤ n ∧ i = .int .i64 k ∧ Below w.heap.size w wr ∧ Hid (hasNm (t.take k) s = false)) (fun i _ => n - (intOf i).toNat)
  case atStart => exact ⟨0, Nat.zero_le _, rfl, Below.refl _ _, rfl⟩
  case round =>
    obtain ⟨k, hk, rfl, hb, hall⟩ := hrel
    by_cases hlt : k < n
    · obtain ⟨g, off, rfl, hg, hx⟩ := HR.out.at hlt
      replace hx := hx.below hb hg
      have hcs := (hb.cell (p := ⟨b, 0, none⟩) hlt0).trans HC.out
      have hkt : k < t.length := by rw [HL.out]; exact hlt
      have HKT := Lib.hid hkt; clear hkt
      have HB := Lib.hid hb; clear hb
      obtain ⟨x, hxe⟩ : ∃ x, x = ndOf t k := ⟨_, rfl⟩
      rw [← hxe] at hx
      have hno : decide (x.name = s) = false → hasNm (t.take (k + 1)) s = false := fun h => hasNm_succ HKT.out hall.out (by rw [← hxe]; exact h)
      have hyes : decide (x.name = s) = true → hasNm t s = true := fun h => hasNm_yes HKT.out (by rw [← hxe]; exact h)
      have HN := Lib.hid hno; have HY := Lib.hid hyes; clear hno hyes hxe
      obtain ⟨h0, h1, h2, h3⟩ := hx
      have hcall := hasNm1_any b s x wr hcs
      unfold ndVal at hcall
      have HCALL := Lib.hid hcall; clear hcall hcs
      rcases hd : decide (x.name = s) with _ | _
      · go_wp2_with (go_at_call 105; refine HCALL.out.mono ?_; rintro e w1 ⟨rfl, b1⟩; rw [hd])
        go_roundw
        case rel => exact ⟨k + 1, by omega, by go_num, below_two HB.out b1, HN.out hd⟩
        case measure => simp [intOf]; omega
      · go_wp2_with (go_at_call 105; refine HCALL.out.mono ?_; rintro e w1 ⟨rfl, b1⟩; rw [hd])
        go_ret
        exact ⟨_, rfl, by omega, by rw [HY.out hd]; simp, below_two HB.out b1⟩
    · have hkn : k = n := by omega
      subst hkn
      have HB := Lib.hid hb; clear hb
      go_wp2
      go_ret
      exact ⟨_, rfl, by omega, by have := hall.out; rw [List.take_of_length_le (by rw [HL.out]; exact Nat.le_refl _)] at this; rw [this]; rfl, HB.out⟩
/-- impl.hasName. -/
theorem hasName_any (ao : Option Addr) (n cap : Nat) (t : List Nd) (s : ByteArray) (w : World) (hr : RdN w ao n t) (hn : n ≤ 9223372036854775807) :
    Calls Try.prog 62 #[.slice ao n cap, .string s] w fun e w' => e = .returned (.bool (hasNm t s)) ∧ Below w.heap.size w w' := by
  have hmf := hmfunc
  have HR := Lib.hid (hr.below ((Below.refl _ _).alloc (Nat.le_refl _) (.cells #[.string s] 9))); clear hr
  have hcon : ∀ (w1 : World) (b : Nat), RdN w1 ao n t → w1.cell? ⟨b, 0, none⟩ = some (.string s) → Calls Try.prog 104 #[.slice ao n cap, .func (.func 105) #[] #[.pointer (some ⟨b, 0, none⟩)]] w1 fun e w' => e = .returned (.bool (hasNm t s)) ∧ Below w1.heap.size w1 w' := by
    intro w1 b hr1 hc1
    have hcall := Lib.hid (indexNd_any ao n cap b t s w1 hr1 hn hc1)
    clear hr1 hc1 HR hmf
    go_enter Try.func104, Try.ntmps104
    go_wp2_with fail
    refine hcall.out.mono ?_
    rintro e w2 ⟨r, rfl, -, hd, b2⟩
    go_wp2
    go_ret
    exact ⟨ret_bool (by rw [← hd]), b2⟩
  have HCON := Lib.hid hcon; clear hcon
  go_enter Try.func62, Try.ntmps62
  go_wp2_with fail
  refine (HCON.out _ _ HR.out (new_cell rfl)).mono ?_
  rintro e w2 ⟨rfl, b2⟩
  go_wp2
  go_ret
  exact ⟨rfl, ((Below.refl _ _).alloc (Nat.le_refl _) _).trans (b2.mono (by simp))⟩
end Go.Proofs.Ytpedlofckbplmaa
