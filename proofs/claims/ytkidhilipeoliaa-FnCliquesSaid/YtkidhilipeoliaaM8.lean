/-
  Chapter 5: the draws of vectors, nodes, members and lists.
-/
import Derived.Test.YtkidhilipeoliaaM4
import Derived.Test.YtkidhilipeoliaaDrawA
import Derived.Test.YtkidhilipeoliaaLawC
namespace Go.Proofs.Ytkidhilipeoliaa
open Go.RowKit

/-- What a draw of a number leaves: some number; of old memory only the source has been written. -/
def DrawnI (T : Nat) (w : World) (p : Nat) (e : Ending) (w' : World) : Prop :=
  ∃ x : Int, e = .returned (.int .i64 x) ∧ Src T w' p ∧ w.grownBy w' (some p)
theorem alloc_grown {w w' : World} {p : Nat} {o : Obj} (hg : (w.alloc o).grownBy w' (some p)) : w.grownBy w' (some p) := grown_trans (grown_of_below ((Below.refl _ _).alloc (Nat.le_refl _) o)) hg

/-- spec.l05Draw. -/
theorem l05Draw_any (p : Nat) (w : World) (hs : Src 70 w p) : Calls Try.prog 47 #[.pointer (some ⟨p, 0, none⟩)] w (DrawnI 70 w p) := by
  go_enter Try.func47, Try.ntmps47
  go_wp2_with fail
  refine (next_any _ _ _ hs (by omega)).mono ?_
  rintro e w1 ⟨y, rfl, -, -, -, hs1, g1⟩
  have HS := Lib.hid hs1; clear hs1 hs
  have G1 := Lib.hid g1; clear g1
  by_cases h0 : y = 0
  · subst h0
    go_wp2_with fail
    refine (next_any _ _ _ (HS.out.below ((Below.refl _ _).alloc (Nat.le_refl _) _)) (by omega)).mono ?_
    rintro e w2 ⟨z, rfl, hz0, hz1, -, hs2, g2⟩
    have hct := table_cell g2 HS.out.lt
    have HS2 := Lib.hid hs2
    have G2 := Lib.hid (grown_trans G1.out (alloc_grown g2))
    clear hs2 g2
    obtain ⟨z, rfl⟩ := Int.eq_ofNat_of_zero_le hz0
    have hz2 : z < 4 := by omega
    have hc := hct z
    clear hct hz0 hz1
    match z, hz2 with
    | 0, _ | 1, _ | 2, _ | 3, _ =>
      simp at hc
      go_wp2
      go_ret
      exact ⟨_, rfl, HS2.out, G2.out⟩
  · have t0 : (y == 0) = false := by simp [h0]
    clear h0
    go_wp2_with fail
    refine (next_any _ _ _ HS.out (by omega)).mono ?_
    rintro e w2 ⟨z, rfl, -, -, -, hs2, g2⟩
    go_wp2
    go_ret
    exact ⟨_, rfl, hs2, grown_trans G1.out g2⟩
/-- spec.l05DrawNode. -/
theorem l05DrawNode_any (p : Nat) (w : World) (hs : Src 70 w p) : Calls Try.prog 53 #[.pointer (some ⟨p, 0, none⟩)] w (DrawnI 70 w p) := by
  go_enter Try.func53, Try.ntmps53
  go_wp2_with fail
  refine (next_any _ _ _ hs (by omega)).mono ?_
  rintro e w1 ⟨y, rfl, -, -, -, hs1, g1⟩
  have HS := Lib.hid hs1; clear hs1 hs
  have G1 := Lib.hid g1; clear g1
  by_cases h0 : y = 0
  · subst h0
    go_wp2_with fail
    refine (next_any _ _ _ (HS.out.below ((Below.refl _ _).alloc (Nat.le_refl _) _)) (by omega)).mono ?_
    rintro e w2 ⟨z, rfl, hz0, hz1, -, hs2, g2⟩
    have hct := table_cell g2 HS.out.lt
    have HS2 := Lib.hid hs2
    have G2 := Lib.hid (grown_trans G1.out (alloc_grown g2))
    clear hs2 g2
    obtain ⟨z, rfl⟩ := Int.eq_ofNat_of_zero_le hz0
    have hz2 : z < 3 := by omega
    have hc := hct z
    clear hct hz0 hz1
    match z, hz2 with
    | 0, _ | 1, _ | 2, _ =>
      simp at hc
      go_wp2
      go_ret
      exact ⟨_, rfl, HS2.out, G2.out⟩
  · have t0 : (y == 0) = false := by simp [h0]
    clear h0
    go_wp2_with fail
    refine (next_any _ _ _ HS.out (by omega)).mono ?_
    rintro e w2 ⟨z, rfl, -, -, -, hs2, g2⟩
    go_wp2
    go_ret
    exact ⟨_, rfl, hs2, grown_trans G1.out g2⟩
/-- What a draw of one number leaves. -/
def DrawnInt (w : World) (e : Ending) (w' : World) : Prop := ∃ x : Int, e = .returned (.int .i64 x) ∧ Below w.heap.size w w'
theorem drawMembersOf_any (ao : Option Addr) (n cap : Nat) (cs : List Int) (w : World) (hr : RdB w w.heap.size ao n cs) (hn : n ≤ 1048576) :
    Calls Try.prog 16 #[.slice ao n cap] w (DrawnInt w) := by
  have HR := Lib.hid hr; clear hr
  go_enter Try.func16, Try.ntmps16
  go_wp2_with fail
  refine (from_any _ _ _ cs _ HR.out hn).mono ?_
  rintro e w1 ⟨p, rfl, hlo, hs1, hb1⟩
  go_wp2_with fail
  refine (l05Draw_any _ _ hs1).mono ?_
  rintro e w2 ⟨x, rfl, hs2, g2⟩
  go_wp2
  go_ret
  exact ⟨_, rfl, below_thrown hb1 g2 hlo⟩
/-- What a draw of two numbers and a bool leaves. -/
def DrawnIIB (w : World) (e : Ending) (w' : World) : Prop := ∃ (x y : Int) (b : Bool), e = .returned (.tuple #[.int .i64 x, .int .i64 y, .bool b]) ∧ Below w.heap.size w w'
theorem drawSetMember_any (ao : Option Addr) (n cap : Nat) (cs : List Int) (w : World) (hr : RdB w w.heap.size ao n cs) (hn : n ≤ 1048576) :
    Calls Try.prog 19 #[.slice ao n cap] w (DrawnIIB w) := by
  have HR := Lib.hid hr; clear hr
  go_enter Try.func19, Try.ntmps19
  go_wp2_with fail
  refine (from_any _ _ _ cs _ HR.out hn).mono ?_
  rintro e w1 ⟨p, rfl, hlo, hs1, hb1⟩
  have HB := Lib.hid hb1
  go_wp2_with fail
  refine (l05Draw_any _ _ hs1).mono ?_
  rintro e w2 ⟨x, rfl, hs2, g2⟩
  go_wp2_with fail
  refine (l05DrawNode_any _ _ hs2).mono ?_
  rintro e w3 ⟨y, rfl, hs3, g3⟩
  go_wp2_with fail
  refine (next_any _ _ _ hs3 (by omega)).mono ?_
  rintro e w4 ⟨z, rfl, -, -, -, hs4, g4⟩
  go_wp2
  go_ret3
  exact ⟨_, _, _, rfl, below_thrown HB.out (grown_trans (grown_trans g2 g3) g4) hlo⟩
set_option maxHeartbeats 1000000 in
theorem drawVectorOf_any (ao : Option Addr) (n cap : Nat) (cs : List Int) (w : World) (hr : RdB w w.heap.size ao n cs) (hn : n ≤ 1048576) :
    Calls Try.prog 25 #[.slice ao n cap] w (Drawn1 2 w) := by
  have HR := Lib.hid hr; clear hr
  go_enter Try.func25, Try.ntmps25
  go_wp2_with fail
  refine (from_any _ _ _ cs _ HR.out hn).mono ?_
  rintro e w1 ⟨p, rfl, hlo, hs1, hb1⟩
  have HB := Lib.hid hb1; clear hb1
  have hp := hs1.lt
  go_wp2_with fail
  refine (next_any _ _ _ (hs1.below ((Below.refl _ _).alloc (Nat.le_refl _) _)) (by omega)).mono ?_
  rintro e w2 ⟨k0, rfl, hk0, hk1, hk2, hs2, g2⟩
  have o2 : Own 2 w2 w1.heap.size (.slice (some ⟨w1.heap.size, 0, none⟩) 0 0) [] := (Own.of_alloc_nil (Nat.le_refl _)).src g2 hp
  have G2 := alloc_grown g2
  have hk3 : k0 < 6 := hk1 (by omega)
  obtain ⟨m, rfl⟩ := Int.eq_ofNat_of_zero_le hk0
  have hm6 : m < 6 := by omega
  clear hk0 hk1 hk2 hk3 g2 hs1
  go_wp2
  go_loopw [4, 5] (fun v i wr => ∃ (k : Nat) (xs : List Int), k ≤ m ∧ i = .int .i64 k ∧ xs.length ≤ 6 - k ∧ Hid (Own 2 wr w1.heap.size v xs) ∧ Hid (Src 70 wr p) ∧ Hid (w1.grownBy wr (some p))) (fun _ i _ => (intOf i).toNat)
  case atStart => exact ⟨m, [], by omega, rfl, by simp, o2, hs2, G2⟩
  case round =>
    clear o2 hs2 G2
    obtain ⟨k, xs, hk, rfl, hxl, HO, HSR, HG⟩ := hrel
    by_cases hkp : 0 < k
    · obtain ⟨k, rfl⟩ : ∃ j, k = j + 1 := ⟨k - 1, by omega⟩
      have hpos : (0 : Int) < ((k + 1 : Nat) : Int) := by omega
      obtain ⟨pa, ca, rfl, o, -⟩ := HO.out.get
      replace HO := Lib.hid o; clear o
      have hls : xs.length ≤ 4294967296 := by omega
      obtain ⟨l, hl⟩ : ∃ l, xs.length = l := ⟨_, rfl⟩
      have HLL := Lib.hid hl
      rw [hl] at HO hls hxl ⊢
      clear hl
      have hll : l ≤ 6 := by omega
      go_wp2_with fail
      refine (l05DrawNode_any _ _ HSR.out).mono ?_
      rintro e w3 ⟨x, rfl, hs3, g3⟩
      have S3 := Lib.hid hs3
      have G3 := Lib.hid (grown_trans HG.out g3)
      have O3 := Lib.hid (HO.out.src g3 hp)
      clear hs3 g3 HSR HG HO
      obtain ⟨q, hq⟩ : ∃ q, decide (x ∈ xs) = q := ⟨_, rfl⟩
      have HQ := Lib.hid hq; clear hq
      have hrd : Rd w3 pa l xs := by
        obtain ⟨_, _, e, _, r⟩ := O3.out.get
        cases e
        rw [HLL.out] at r
        exact r
      have HRD := Lib.hid hrd; clear hrd
      cases q
      · go_wp2_with fail
        refine (l01Has_any _ _ _ _ _ _ HRD.out (by omega)).mono ?_
        rintro e w' ⟨rfl, rfl⟩
        rw [HQ.out]
        have hw3 := G3.out.size
        go_wp2_with (at_builtin; refine append_one _ rfl (.tmp 27) (.tmp 29) rfl w1.heap.size Try.underlying25 info64 _ _ rfl (O3.out.below ((Below.refl _ _).alloc (Nat.le_refl _) _)) _ _ _ rfl (new_cell rfl) (by rw [HLL.out]; exact hls) (by simp; omega) ?_; intro v' w' hown' hbel')
        have hb' : Below w1.heap.size w3 w' := ((Below.refl _ _).alloc hw3 _).trans hbel'
        have HO' := Lib.hid hown'
        have HS' := Lib.hid (S3.out.belowB hb' hp)
        have HG' := Lib.hid (grown_step G3.out hb' (Nat.le_refl _))
        clear hown' hbel' hb'
        go_wp2
        go_roundw
        case rel => exact ⟨k, xs ++ [x], by omega, by go_num, by rw [List.length_append, HLL.out, List.length_singleton]; omega, HO', HS', HG'⟩
        case measure => simp [intOf]
      · go_wp2_with fail
        refine (l01Has_any _ _ _ _ _ _ HRD.out (by omega)).mono ?_
        rintro e w' ⟨rfl, rfl⟩
        rw [HQ.out]
        go_wp2_with fail
        refine (next_any _ _ _ S3.out (by omega)).mono ?_
        rintro e w4 ⟨y, rfl, -, -, -, hs4, g4⟩
        have S4 := Lib.hid hs4
        have G4 := Lib.hid (grown_trans G3.out g4)
        have O4 := Lib.hid (O3.out.src g4 hp)
        clear hs4 g4 S3 G3 O3 HRD
        have hw4 := G4.out.size
        by_cases h0 : y = 0
        · subst h0
          go_wp2_with (at_builtin; refine append_one _ rfl (.tmp 27) (.tmp 29) rfl w1.heap.size Try.underlying25 info64 _ _ rfl (O4.out.below ((Below.refl _ _).alloc (Nat.le_refl _) _)) _ _ _ rfl (new_cell rfl) (by rw [HLL.out]; exact hls) (by simp; omega) ?_; intro v' w' hown' hbel')
          have hb' : Below w1.heap.size w4 w' := ((Below.refl _ _).alloc hw4 _).trans hbel'
          have HO' := Lib.hid hown'
          have HS' := Lib.hid (S4.out.belowB hb' hp)
          have HG' := Lib.hid (grown_step G4.out hb' (Nat.le_refl _))
          clear hown' hbel' hb'
          go_wp2
          go_roundw
          case rel => exact ⟨k, xs ++ [x], by omega, by go_num, by rw [List.length_append, HLL.out, List.length_singleton]; omega, HO', HS', HG'⟩
          case measure => simp [intOf]
        · have t0 : (y == 0) = false := by simp [h0]
          clear h0
          go_wp2
          go_roundw
          case rel => exact ⟨k, xs, by omega, by go_num, by rw [HLL.out]; omega, O4, S4, G4⟩
          case measure => simp [intOf]
    · have hkz : k = 0 := by omega
      subst hkz
      go_wp2
      go_ret
      exact ⟨_, xs, rfl, HO.out.more HB.out.size, by omega, below_thrown HB.out HG.out hlo⟩
end Go.Proofs.Ytkidhilipeoliaa
