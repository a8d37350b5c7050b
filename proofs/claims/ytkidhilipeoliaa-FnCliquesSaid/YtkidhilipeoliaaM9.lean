/-
  Chapter 5: the draws of lists of vectors.
-/
import Derived.Test.YtkidhilipeoliaaM8
namespace Go.Proofs.Ytkidhilipeoliaa
open Go.RowKit

set_option maxHeartbeats 1000000 in
/-- spec.l05DrawList. -/
theorem l05DrawList_any (p : Nat) (w : World) (hs : Src 70 w p) :
    Calls Try.prog 62 #[.pointer (some ⟨p, 0, none⟩)] w (DrawnList 2 70 w p 40) := by
  have hp := hs.lt
  go_enter Try.func62, Try.ntmps62
  go_wp2_with fail
  refine (next_any _ _ _ hs (by omega)).mono ?_
  rintro e w0 ⟨base, rfl, -, -, -, hs0, g0⟩
  have hp0 : p < w0.heap.size := hs0.lt
  have hw0 := g0.size
  have G0 := Lib.hid g0
  go_wp2_with fail
  refine (next_any _ _ _ (hs0.below ((Below.refl _ _).alloc (Nat.le_refl _) _)) (by omega)).mono ?_
  rintro e w2 ⟨k0, rfl, hk0, hk1, hk2, hs2, g2⟩
  have o2 : Own 2 w2 w0.heap.size (.slice (some ⟨w0.heap.size, 0, none⟩) 0 0) [] := (Own.of_alloc_nil (Nat.le_refl _)).src g2 hp0
  have G2 := grown_trans g0 (alloc_grown g2)
  have hk3 : k0 < 8 := hk1 (by omega)
  obtain ⟨m, rfl⟩ := Int.eq_ofNat_of_zero_le hk0
  have hm8 : m < 8 := by omega
  have O2 := o2.more hw0
  clear hk0 hk1 hk2 hk3 g2 hs0 g0 o2 G0 hp0 hs
  go_wp2
  go_loopw [4, 5] (fun v i wr => ∃ (k : Nat) (xs : List Int), k ≤ m ∧ i = .int .i64 k ∧ xs.length ≤ 8 - k ∧ Hid (Own 2 wr w.heap.size v xs) ∧ Hid (Src 70 wr p) ∧ Hid (w.grownBy wr (some p))) (fun _ i _ => (intOf i).toNat)
  case atStart => exact ⟨m, [], by omega, rfl, by simp, O2, hs2, G2⟩
  case round =>
    clear O2 hs2 G2
    obtain ⟨k, xs, hk, rfl, hxl, HO, HSR, HG⟩ := hrel
    have hls : xs.length ≤ 4294967296 := by omega
    by_cases hkp : 0 < k
    · obtain ⟨k, rfl⟩ : ∃ j, k = j + 1 := ⟨k - 1, by omega⟩
      have hpos : (0 : Int) < ((k + 1 : Nat) : Int) := by omega
      go_wp2_with fail
      refine (next_any _ _ _ HSR.out (by omega)).mono ?_
      rintro e w3 ⟨y, rfl, -, -, -, hs3, g3⟩
      have S3 := Lib.hid hs3
      have G3 := Lib.hid (grown_trans HG.out g3)
      have O3 := Lib.hid (HO.out.src g3 hp)
      clear hs3 g3 HSR HG HO
      by_cases h0 : y = 0
      · subst h0
        go_wp2_with fail
        refine (l05Draw_any _ _ S3.out).mono ?_
        rintro e w4 ⟨x, rfl, hs4, g4⟩
        have S4 := Lib.hid hs4
        have G4 := Lib.hid (grown_trans G3.out g4)
        have O4 := Lib.hid (O3.out.src g4 hp)
        clear hs4 g4 S3 G3 O3
        have hw4 := G4.out.size
        go_wp2_with (at_builtin; refine append_one _ rfl (.tmp 23) (.tmp 26) rfl w.heap.size Try.underlying25 info64 _ _ rfl (O4.out.below ((Below.refl _ _).alloc (Nat.le_refl _) _)) _ _ _ rfl (new_cell rfl) hls (by simp; omega) ?_; intro v' w' hown' hbel')
        have hb' : Below w.heap.size w4 w' := ((Below.refl _ _).alloc hw4 _).trans hbel'
        have HO' := Lib.hid hown'
        have HS' := Lib.hid (S4.out.belowB hb' hp)
        have HG' := Lib.hid (grown_step G4.out hb' (Nat.le_refl _))
        clear hown' hbel' hb'
        go_wp2
        go_roundw
        case rel => exact ⟨k, xs ++ [x], by omega, by go_num, by rw [List.length_append, List.length_singleton]; omega, HO', HS', HG'⟩
        case measure => simp [intOf]
      · have t0 : (y == 0) = false := by simp [h0]
        clear h0
        by_cases h1 : y = 1
        · subst h1
          clear t0
          go_wp2_with fail
          refine (next_any _ _ _ S3.out (by omega)).mono ?_
          rintro e w4 ⟨x, rfl, -, -, -, hs4, g4⟩
          have S4 := Lib.hid hs4
          have G4 := Lib.hid (grown_trans G3.out g4)
          have O4 := Lib.hid (O3.out.src g4 hp)
          clear hs4 g4 S3 G3 O3
          have hw4 := G4.out.size
          obtain ⟨q, hq⟩ : ∃ q, bits .xor .i64 base x = q := ⟨_, rfl⟩
          go_wp2_with (at_builtin; refine append_one _ rfl (.tmp 30) (.tmp 35) rfl w.heap.size Try.underlying25 info64 _ _ rfl (O4.out.below ((Below.refl _ _).alloc (Nat.le_refl _) _)) _ _ _ rfl (new_cell rfl) hls (by simp; omega) ?_; intro v' w' hown' hbel')
          have hb' : Below w.heap.size w4 w' := ((Below.refl _ _).alloc hw4 _).trans hbel'
          have HO' := Lib.hid hown'
          have HS' := Lib.hid (S4.out.belowB hb' hp)
          have HG' := Lib.hid (grown_step G4.out hb' (Nat.le_refl _))
          clear hown' hbel' hb'
          go_wp2
          go_roundw
          case rel => exact ⟨k, _, by omega, by go_num, by rw [List.length_append, List.length_singleton]; omega, HO', HS', HG'⟩
          case measure => simp [intOf]
        · have t1 : (y == 1) = false := by simp [h1]
          clear h1
          have hw3 := G3.out.size
          go_wp2_with (at_builtin; refine append_one _ rfl (.tmp 17) (.tmp 19) rfl w.heap.size Try.underlying25 info64 _ _ rfl (O3.out.below ((Below.refl _ _).alloc (Nat.le_refl _) _)) _ _ _ rfl (new_cell rfl) hls (by simp; omega) ?_; intro v' w' hown' hbel')
          have hb' : Below w.heap.size w3 w' := ((Below.refl _ _).alloc hw3 _).trans hbel'
          have HO' := Lib.hid hown'
          have HS' := Lib.hid (S3.out.belowB hb' hp)
          have HG' := Lib.hid (grown_step G3.out hb' (Nat.le_refl _))
          clear hown' hbel' hb'
          go_wp2
          go_roundw
          case rel => exact ⟨k, xs ++ [base], by omega, by go_num, by rw [List.length_append, List.length_singleton]; omega, HO', HS', HG'⟩
          case measure => simp [intOf]
    · have hkz : k = 0 := by omega
      subst hkz
      go_wp2_with fail
      refine (next_any _ _ _ HSR.out (by omega)).mono ?_
      rintro e w3 ⟨y, rfl, -, -, -, hs3, g3⟩
      have S3 := Lib.hid hs3
      have G3 := Lib.hid (grown_trans HG.out g3)
      have O3 := Lib.hid (HO.out.src g3 hp)
      clear hs3 g3 HSR HG HO
      by_cases h0 : y = 0
      · subst h0
        go_wp2_with fail
        refine (next_any _ _ _ S3.out (by omega)).mono ?_
        rintro e w4 ⟨z, rfl, hz0, hz1, -, hs4, g4⟩
        have S4 := Lib.hid hs4
        have G4 := Lib.hid (grown_trans G3.out g4)
        have hw4 := G4.out.size
        obtain ⟨z, rfl⟩ := Int.eq_ofNat_of_zero_le hz0
        have hz3 : z ≤ 1 := by have := hz1 (by omega); omega
        clear hz0 hz1 hs4 g4 S3 G3 O3
        go_wp2_with (at_make; refine make_cap _ rfl _ _ rfl w.heap.size Try.underlying25 info64 _ _ _ _ (32 + z) (32 + z) rfl rfl (by omega) (by omega) (Nat.le_refl _) (by omega) hw4 ?_; intro w5 o5 b5)
        go_ret
        exact ⟨_, _, rfl, o5, by simp; omega, S4.out.belowB b5 hp, grown_step G4.out b5 (Nat.le_refl _)⟩
      · have t0 : (y == 0) = false := by simp [h0]
        clear h0
        go_wp2
        go_ret
        exact ⟨_, xs, rfl, O3.out, by omega, S3.out, G3.out⟩
theorem drawAgreedMembers_any (ao : Option Addr) (n cap : Nat) (cs : List Int) (w : World) (hr : RdB w w.heap.size ao n cs) (hn : n ≤ 1048576) :
    Calls Try.prog 27 #[.slice ao n cap] w (Drawn1 2 w) := by
  have HR := Lib.hid hr; clear hr
  go_enter Try.func27, Try.ntmps27
  go_wp2_with fail
  refine (from_any _ _ _ cs _ HR.out hn).mono ?_
  rintro e w1 ⟨p, rfl, hlo, hs1, hb1⟩
  go_wp2_with fail
  refine (l05DrawList_any _ _ hs1).mono ?_
  rintro e w2 ⟨v, xs, rfl, o2, hxl, hs2, g2⟩
  go_wp2
  go_ret
  exact ⟨_, xs, rfl, o2.more hb1.size, by omega, below_thrown hb1 g2 hlo⟩
/-- What a draw of a slice and a number leaves. -/
def DrawnSI (E : Nat) (w : World) (e : Ending) (w' : World) : Prop :=
  ∃ v xs k, e = .returned (.tuple #[v, .int .i64 k]) ∧ Own E w' w.heap.size v xs ∧ xs.length ≤ 9000 ∧ Below w.heap.size w w'
theorem drawCliqueOf_any (ao : Option Addr) (n cap : Nat) (cs : List Int) (w : World) (hr : RdB w w.heap.size ao n cs) (hn : n ≤ 1048576) :
    Calls Try.prog 34 #[.slice ao n cap] w (DrawnSI 2 w) := by
  have HR := Lib.hid hr; clear hr
  go_enter Try.func34, Try.ntmps34
  go_wp2_with fail
  refine (from_any _ _ _ cs _ HR.out hn).mono ?_
  rintro e w1 ⟨p, rfl, hlo, hs1, hb1⟩
  have HB := Lib.hid hb1
  have hp := hs1.lt
  go_wp2_with fail
  refine (l05DrawList_any _ _ hs1).mono ?_
  rintro e w2 ⟨v, xs, rfl, o2, hxl, hs2, g2⟩
  obtain ⟨pa, ca, rfl, o2, -⟩ := o2.get
  have O2 := Lib.hid o2
  obtain ⟨l, hl⟩ : ∃ l, xs.length = l := ⟨_, rfl⟩
  rw [hl] at O2 hxl ⊢
  have HLL := Lib.hid hl
  clear hl o2 hb1 hs1
  go_wp2_with fail
  refine (next_any _ _ _ hs2 (by omega)).mono ?_
  rintro e w3 ⟨a, rfl, ha0, ha1, ha2, hs3, g3⟩
  have O3 := Lib.hid (O2.out.src g3 hp)
  have G3 := Lib.hid (grown_trans g2 g3)
  clear O2 g2 g3 hs2
  have ha3 : 0 ≤ a ∧ a ≤ 40 := by
    refine ⟨ha0, ?_⟩
    by_cases h : (1 : Int) < (l : Int)
    · have := ha1 h; omega
    · have := ha2 (by omega); omega
  clear ha0 ha1 ha2
  obtain ⟨ha0, ha1⟩ := ha3
  go_wp2_with fail
  refine (next_any _ _ _ hs3 (by omega)).mono ?_
  rintro e w4 ⟨b, rfl, hb0, hb1, -, hs4, g4⟩
  have O4 := Lib.hid (O3.out.src g4 hp)
  have G4 := Lib.hid (grown_trans G3.out g4)
  have hb2 : b < 16 := hb1 (by omega)
  clear O3 G3 g4 hs3 hs4 hb1
  have hb3 : b / 15 = 0 ∨ b / 15 = 1 := by omega
  obtain ⟨d, hd⟩ : ∃ d, b / 15 = d := ⟨_, rfl⟩
  have hdd : b.tdiv 15 = d := by rw [← hd]; exact Int.tdiv_eq_ediv_of_nonneg hb0
  rw [hd] at hb3
  rcases hb3 with rfl | rfl
  · go_wp2
    go_ret2
    exact ⟨_, xs, _, rfl, O4.out.more HB.out.size, by rw [HLL.out]; omega, below_thrown HB.out G4.out hlo⟩
  · go_wp2
    go_ret2
    exact ⟨_, xs, _, rfl, O4.out.more HB.out.size, by rw [HLL.out]; omega, below_thrown HB.out G4.out hlo⟩
end Go.Proofs.Ytkidhilipeoliaa
