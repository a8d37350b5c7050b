/-
  SortDemands of the model.
-/
import Derived.Test.YtbbodgeoenjdkaaSmA
namespace Go.Proofs.Ytbbodgeoenjdkaa
open Go.RowKit

def evF (t : List Dm) (e : Int) : List Dm := t.filter fun x => decide (x.every = e)
def preS (t : List Dm) (e : Int) : List Dm := if e = 1 then [] else if e = 2 then evF t 1 else if e = 4 then evF t 1 ++ evF t 2 else if e = 8 then evF t 1 ++ (evF t 2 ++ evF t 4) else plSorted t
theorem preS_next {t : List Dm} {e : Int} (h : e = 1 ∨ e = 2 ∨ e = 4 ∨ e = 8) : preS t e ++ evF t e = preS t (2 * e) := by
  rcases h with rfl | rfl | rfl | rfl <;> simp [preS, plSorted, evF]
theorem evF_next {t : List Dm} {e : Int} {i : Nat} (h : i < t.length) : evF (t.take (i + 1)) e = evF (t.take i) e ++ if (dmOf t i).every = e then [dmOf t i] else [] := by
  unfold evF
  rw [List.take_add_one, List.getElem?_eq_getElem h, List.filter_append, dmOf_get h]
  by_cases hc : (t[i]).every = e <;> simp [hc]
theorem evF_len (t : List Dm) (e : Int) : (evF t e).length ≤ t.length := List.length_filter_le ..
theorem preS_len (t : List Dm) {e : Int} (h : e = 1 ∨ e = 2 ∨ e = 4 ∨ e = 8) : (preS t e).length ≤ 3 * t.length := by
  have h1 := evF_len t 1; have h2 := evF_len t 2; have h4 := evF_len t 4
  rcases h with rfl | rfl | rfl | rfl <;> simp [preS] <;> omega
set_option maxRecDepth 100000 in
set_option maxHeartbeats 4000000 in
set_option linter.unusedSimpArgs false in
set_option linter.unusedVariables false in
/-- spec.SortDemands. -/
theorem sortDemandsS_any (ao : Option Addr) (n cap : Nat) (t : List Dm) (w : World) (hr : RdDm w ao n t) (hn : n ≤ 1048576) :
    Calls Try.prog 19 #[.slice ao n cap] w (MakesDm2 38 w (sortDemands t).1 (sortDemands t).2) := by
  have HA := Lib.hid (areDmsS_any ao n cap t w hr (by omega))
  have HR := Lib.hid hr
  have hl := hr.len
  clear hr
  cases hd : areDms t
  · have HE := Lib.hid (show sortDemands t = ([], 1) from by unfold sortDemands; rw [if_pos hd])
    rw [hd] at HA
    clear hd hl
    go_enter Try.func19, Try.ntmps19
    go_wp2_with fail
    refine HA.out.mono ?_
    rintro e w1 ⟨rfl, b1⟩
    go_wp2
    go_ret2
    rw [HE.out]
    exact ⟨.slice none 0 0, rfl, OwnDm.nil_, b1⟩
  · have HE := Lib.hid (show sortDemands t = (plSorted t, 0) from by unfold sortDemands; rw [if_neg (by rw [hd]; decide)])
    have hlen := areDms_len hd
    have HL := Lib.hid hl
    rw [hd] at HA
    clear hd hl
    go_enter Try.func19, Try.ntmps19
    go_wp2_with fail
    refine HA.out.mono ?_
    rintro e w1 ⟨rfl, b1⟩
    have HB1 := Lib.hid b1
    have HR1 := Lib.hid (HR.out.below b1)
    clear b1 HA HR
    have hbl : Below w1.heap.size w1 (w1.alloc (.cells #[] 38)) := (Below.refl _ _).alloc (Nat.le_refl _) _
    have HO := Lib.hid (OwnDm.of_alloc_nil (E := 38) (w := w1) (base := w1.heap.size) (Nat.le_refl _))
    have HBL := Lib.hid hbl
    clear hbl
    go_wp2
    go_loopw [4, 5] (fun s4 s5 wr => ∃ (e : Int), s5 = .int .i64 e ∧ (e = 1 ∨ e = 2 ∨ e = 4 ∨ e = 8 ∨ e = 16) ∧ Hid (OwnDm 38 wr w1.heap.size s4 (preS t e)) ∧ Hid (Below w1.heap.size w1 wr)) (fun _ s5 _ => 20 - (intOf s5).toNat)
    case atStart => exact ⟨1, rfl, .inl rfl, HO.out, HBL.out⟩
    case round =>
      clear HO HBL
      obtain ⟨e, rfl, he, HO, HB⟩ := hrel
      by_cases h8 : e ≤ 8
      · have he4 : e = 1 ∨ e = 2 ∨ e = 4 ∨ e = 8 := by omega
        have HNX := Lib.hid (preS_next (t := t) he4)
        have HPL := Lib.hid (preS_len t he4)
        have HE4 := Lib.hid he4
        have he1 : 1 ≤ e := by omega
        clear he he4
        generalize preS t e = o at HO HNX HPL
        go_wp2
        go_loopw [4, 6] (fun s4 s6 wr => ∃ (i : Nat), s6 = .int .i64 (i : Int) ∧ i ≤ n ∧ Hid (OwnDm 38 wr w1.heap.size s4 (o ++ evF (t.take i) e)) ∧ Hid (Below w1.heap.size w1 wr)) (fun _ s6 _ => n - (intOf s6).toNat)
        case atStart => exact ⟨0, rfl, Nat.zero_le _, by rw [show evF (t.take 0) e = [] from rfl, List.append_nil]; exact HO.out, HB.out⟩
        case round =>
          clear HO HB
          obtain ⟨i, rfl, hi, HO, HB⟩ := hrel
          by_cases hlt : i < n
          · have HRW := Lib.hid (HR1.out.below HB.out)
            obtain ⟨b, off, rfl, hbw, hin⟩ := HRW.out.at hlt
            have hnx := evF_next (t := t) (e := e) (i := i) (by have := HL.out; omega)
            have hlo := evF_len (t.take i) e
            rw [List.length_take] at hlo
            have HLO := Lib.hid (show (o ++ evF (t.take i) e).length ≤ 1073741824 from by rw [List.length_append]; have := HPL.out; have := HL.out; omega)
            clear hlo
            generalize hx : dmOf t i = x at hin hnx
            clear hx
            obtain ⟨c0, c1, c2⟩ := hin
            obtain ⟨x0, x1, x2⟩ := x
            dsimp only at c0 c1 c2 hnx
            by_cases hev : x1 = e
            · rw [if_pos hev] at hnx
              have HNE := Lib.hid hnx
              have hdd : (x1 == e) = true := by simp [hev]
              clear hnx hev
              have hsz := HB.out.size
              go_wp2_with (at_builtin; (refine append_dm _ rfl _ _ rfl w1.heap.size Try.underlying24 info_dmP _ _ rfl (OwnDm.below HO.out ((Below.refl _ _).alloc (Nat.le_refl _) _)) _ _ _ _ rfl (DmBk.new (T := 38) (x := ⟨x0, x1, x2⟩) wr).in_ HLO.out (by simp; omega) ?_); intro v' w' hown hg2)
              have HBX := Lib.hid (HB.out.trans (((Below.refl w1.heap.size wr).alloc hsz (.cells #[.int .i64 x0, .int .i64 x1, .int .i64 x2] 38)).trans hg2))
              have HO2 := Lib.hid hown
              rw [List.append_assoc, ← HNE.out] at HO2
              clear hown hg2
              go_wp2
              go_roundw
              case rel => exact ⟨i + 1, by go_num, by omega, HO2.out, HBX.out⟩
              case measure => simp [intOf]; omega
            · rw [if_neg hev, List.append_nil] at hnx
              have HO2 := Lib.hid HO.out
              rw [← hnx] at HO2
              have hdd : (x1 == e) = false := by simp [hev]
              clear hnx hev HO
              go_wp2
              go_roundw
              case rel => exact ⟨i + 1, by go_num, by omega, HO2.out, HB.out⟩
              case measure => simp [intOf]; omega
          · have hin : i = n := by omega
            subst hin
            have HO2 := Lib.hid HO.out
            rw [show t.take i = t from List.take_of_length_le (by have := HL.out; omega), HNX.out] at HO2
            clear HO hlt
            have hw : wrap64 (2 * e) = 2 * e := by unfold wrap64; omega
            go_wp2
            go_roundw
            case rel => exact ⟨2 * e, rfl, by have := HE4.out; omega, HO2.out, HB.out⟩
            case measure => simp [intOf]; omega
      · have he16 : e = 16 := by omega
        subst he16
        have HO2 := Lib.hid (show OwnDm 38 wr w1.heap.size _ (plSorted t) from HO.out)
        have HBF := Lib.hid (below_two HB1.out HB.out)
        clear HO he h8
        go_wp2
        go_ret2
        rw [HE.out]
        exact ⟨_, rfl, HO2.out.more HB1.out.size, HBF.out⟩
theorem OwnDm.formA {E base n cap : Nat} {w : World} {ao : Option Addr} {t : List Dm} (h : OwnDm E w base (.slice ao n cap) t) : (ao = none ∧ cap = 0) ∨ ∃ g : Nat, ao = some ⟨g, 0, none⟩ := by
  obtain ⟨ao', cap', e, -, -, -, hv⟩ := h.form
  rcases hv with hv | ⟨g, h1, -⟩
  · injection hv with e1 e2 e3
    exact .inl ⟨e1, e3⟩
  · injection e with e1 e2 e3
    exact .inr ⟨g, e1.trans h1⟩
theorem sortDemands_small (t : List Dm) : (sortDemands t).1.length ≤ 1048576 := by
  unfold sortDemands
  split
  · simp
  · rename_i h
    have h1 := areDms_len (by simpa using h)
    have a := evF_len t 1; have b := evF_len t 2; have c := evF_len t 4; have d := evF_len t 8
    unfold evF at a b c d
    unfold plSorted
    simp only [List.length_append]
    omega
end Go.Proofs.Ytbbodgeoenjdkaa
