/-
  Chapter 4: spec.DrawStateFromBits.
-/
import Derived.Test.YtkidhilipeoliaaDoorC4k
import Derived.Test.YtkidhilipeoliaaDoorC4e
import Derived.Test.YtkidhilipeoliaaDoorC4i
namespace Go.Proofs.YtkidhilipeoliaaDoor
open Go.RowKit
/-- What a draw of a list of bits leaves. -/
def DrawnBits (w : World) (e : Ending) (w' : World) : Prop :=
  ∃ ao cap, ∃ xs : List Int, e = .returned (.slice ao xs.length cap) ∧ Rd w' ao xs.length xs ∧ xs.length ≤ 65 ∧ xs.length ≤ cap ∧ cap ≤ 9223372036854775807 ∧ Below w.heap.size w w'
theorem own_block {E base n : Nat} {w : World} {ao : Option Addr} {cap : Nat} {xs : List Int} (h : Own E w base (.slice ao n cap) xs) (hl : xs.length = 64) : ∃ g, ao = some ⟨g, 0, none⟩ := by
  obtain ⟨ao', cap', e, _, _, _, hg⟩ := h.form
  simp only [Value.slice.injEq] at e
  obtain ⟨rfl, hn, rfl⟩ := e
  rcases hg with hg | ⟨g, rfl, _, _⟩
  · simp at hg
    omega
  · exact ⟨g, rfl⟩
theorem rd_take {w : World} {g n k : Nat} {xs : List Int} (h : Rd w (some ⟨g, 0, none⟩) n xs) (hk : k ≤ n) : Rd w (some ⟨g, 0, none⟩) k (xs.take k) := by
  have hl := h.len
  refine ⟨by rw [List.length_take]; omega, fun h0 => ?_⟩
  obtain ⟨b, off, he, hc⟩ := h.here (by omega)
  cases he
  refine ⟨g, 0, rfl, fun i hi => ?_⟩
  rw [hc i (by omega)]
  simp [List.getD, hi]
set_option maxRecDepth 100000 in
theorem drawStateFromBits_any (ao : Option Addr) (n cap : Nat) (cs : List Int) (w : World) (hr : RdB w w.heap.size ao n cs) (hn : n ≤ 1048576) :
    Calls Tryd.prog 8 #[.slice ao n cap] w (DrawnBits w) := by
  have HR := Lib.hid hr; clear hr
  go_enter Tryd.func8, Tryd.ntmps8
  go_wp2_with fail
  refine (from_any _ _ _ cs _ HR.out hn).mono ?_
  rintro e w1 ⟨p, rfl, hlo, hs1, hb1⟩
  have H1 : Hid (HeldS 2 64 w w1 p []) := HeldS.start hb1 hlo hs1
  clear hlo hs1 hb1
  go_wp2_with fail
  refine (l04Draw_any _ _ H1.out.src).mono ?_
  rintro e w2 ⟨a, b, c, d, f, rfl, hs2, g2⟩
  have H2 := Lib.hid (H1.out.next hs2 g2)
  clear hs2 g2 H1
  go_wp2_with fail
  refine (l04Bits_any _ _ _ _ _ _).mono ?_
  rintro e w3 m3
  obtain ⟨ao3, c3, rfl, o3, -, b3⟩ := m3.get
  have hl : (stateBits a b c d f).length = 64 := stateBits_len _ _ _ _ _
  obtain ⟨xs, hxs⟩ : ∃ xs, stateBits a b c d f = xs := ⟨_, rfl⟩
  rw [hxs] at o3 hl ⊢
  rw [hl] at o3 ⊢
  clear m3 hxs
  obtain ⟨g, rfl⟩ := own_block o3 hl
  have hcap := Own.cap o3
  have hc63 : (63 : Int) ≤ (c3 : Int) := by omega
  have H3 := Lib.hid (H2.out.make o3 b3)
  clear o3 b3 H2
  have HL := Lib.hid hl; clear hl
  have HC := Lib.hid hcap; clear hcap
  go_wp2_with fail
  refine (next_any _ _ _ H3.out.src (by omega)).mono ?_
  rintro e w4 ⟨y, rfl, -, -, -, hs4, g4⟩
  have H4 := Lib.hid (H3.out.next hs4 g4)
  clear hs4 g4 H3
  have hown : Own 2 w4 w.heap.size (.slice (some ⟨g, 0, none⟩) 64 c3) xs := (H4.out.get 0 rfl).more (by have := H4.out.lo; omega)
  have HO := Lib.hid hown; clear hown
  have hrd : Rd w4 (some ⟨g, 0, none⟩) 64 xs := by
    obtain ⟨ao', cap', e, _, r⟩ := HO.out.get
    rw [HL.out] at e r
    cases e
    exact r
  have HRD := Lib.hid hrd; clear hrd
  have hbl := H4.out.below
  have HB := Lib.hid hbl; clear hbl
  by_cases h0 : y = 0
  · subst h0
    go_wp2
    go_ret
    exact ⟨_, _, xs.take 63, by rw [List.length_take, HL.out]; rfl, by rw [List.length_take, HL.out]; exact rd_take HRD.out (by decide), by rw [List.length_take]; omega, by rw [List.length_take]; have := HC.out; have := HL.out; omega, HC.out.2, HB.out⟩
  have t0 : (y == 0) = false := by simp [h0]
  by_cases h1 : y = 1
  · subst h1
    clear t0 h0
    have hbs := HB.out.size
    go_wp2_with (at_builtin; refine append_one _ rfl (.tmp 18) (.tmp 19) rfl w.heap.size Tryd.underlying27 info64 _ xs rfl (HO.out.below ((Below.refl _ _).alloc (Nat.le_refl _) _)) _ _ _ rfl (new_cell rfl) (by have := HL.out; omega) (by simp; omega) ?_; intro v' w' ho2 hb2)
    obtain ⟨ao5, c5, rfl, o5, r5⟩ := ho2.get
    have hc5 := Own.cap o5
    have hl5 : (xs ++ [(0 : Int)]).length = 65 := by rw [List.length_append, HL.out]; rfl
    go_wp2
    go_ret
    exact ⟨_, _, _, rfl, r5, by omega, hc5.1, hc5.2, (HB.out.alloc hbs _).trans hb2⟩
  have t1 : (y == 1) = false := by simp [h1]
  by_cases h2 : y = 2
  · subst h2
    obtain ⟨hdst, hfz, ho2, hb2⟩ := own_store HO.out HL.out (k := 5) (by decide) 2
    have H5 := Lib.hid ho2
    have B5 := Lib.hid (HB.out.trans hb2)
    clear ho2 hb2
    go_wp2
    go_ret
    obtain ⟨ao5, c5, e5, o5, r5⟩ := H5.out.get
    have hl5 : (xs.set 5 2).length = 64 := by rw [List.length_set, HL.out]
    rw [hl5] at e5
    cases e5
    exact ⟨some ⟨g, 0, none⟩, c3, xs.set 5 2, by rw [hl5]; rfl, r5, by omega, by rw [hl5]; exact HC.out.1, HC.out.2, B5.out⟩
  · have t2 : (y == 2) = false := by simp [h2]
    go_wp2
    go_ret
    exact ⟨some ⟨g, 0, none⟩, c3, xs, by rw [HL.out]; rfl, by rw [HL.out]; exact HRD.out, by have := HL.out; omega, by rw [HL.out]; exact HC.out.1, HC.out.2, HB.out⟩
end Go.Proofs.YtkidhilipeoliaaDoor
