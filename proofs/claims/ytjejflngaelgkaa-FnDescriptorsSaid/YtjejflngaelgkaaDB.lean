/-
  Chapter 8: DrawDescriptorToBytes, DrawDescriptorFromBytes.
-/
import Derived.Test.YtjejflngaelgkaaDA
import Derived.Test.YtjejflngaelgkaaSixI
import Derived.Test.YtjejflngaelgkaaDrawC
namespace Go.Proofs.Ytjejflngaelgkaa
open Go.RowKit

/-- What a draw of a descriptor out of a code leaves. -/
def DrawnDe (w : World) (e : Ending) (w' : World) : Prop :=
  ∃ (n a z u : Int) (c : Bool), e = .returned (.agg #[.int .i64 n, .int .i64 a, .int .i64 z, .int .i64 u, .bool c]) ∧ Below w.heap.size w w'
set_option maxHeartbeats 1000000 in
set_option maxRecDepth 100000 in
theorem drawDescToBytes_any (ai : Option Addr) (len capi : Nat) (cs : List Int) (w : World) (hr : RdB w w.heap.size ai len cs) (hn : len ≤ 1048576) :
    Calls Try.prog 13 #[.slice ai len capi] w (DrawnDe w) := by
  have hb0 : Below w.heap.size w (w.alloc (.cells #[.int .i64 0, .int .i64 0, .int .i64 0, .int .i64 0, .bool false] 25)) := (Below.refl _ _).alloc (Nat.le_refl _) _
  have hr0 := rdB_grow hr hb0
  have z1 := DescAt.new (T := 25) (n := 0) (a := 0) (z := 0) (u := 0) (c := false) w
  have HB := Lib.hid hb0; clear hb0
  have HR := Lib.hid hr0; clear hr0 hr
  have Z1 := Lib.hid z1; clear z1
  go_enter Try.func13, Try.ntmps13
  go_wp2_with fail
  generalize (w.alloc (.cells #[.int .i64 0, .int .i64 0, .int .i64 0, .int .i64 0, .bool false] 25)) = w0 at HB HR Z1 ⊢
  refine (from_any _ _ _ cs _ HR.out hn).mono ?_
  rintro e w1 ⟨p, rfl, hlo, hs1, hb1⟩
  have H1 : Hid (HeldS 2 97 w0 w1 p []) := HeldS.start hb1 hlo hs1
  clear hs1 hb1
  go_wp2_with fail
  refine (l08DrawAny_any _ _ H1.out.src).mono ?_
  rintro e w2 ⟨n, a, z, u, c, rfl, hs2, g2⟩
  have H2 := Lib.hid (H1.out.next hs2 g2)
  clear hs2 g2 H1
  have ZZ := Lib.hid (Z1.out.below H2.out.below Z1.out.lt)
  have B2 := Lib.hid (below_two HB.out H2.out.below)
  have q0 := ZZ.out.c0; have q1 := ZZ.out.c1; have q2 := ZZ.out.c2; have q3 := ZZ.out.c3; have q4 := ZZ.out.c4
  have f0 := ZZ.out.f 0; have f1 := ZZ.out.f 1; have f2 := ZZ.out.f 2; have f3 := ZZ.out.f 3; have f4 := ZZ.out.f 4
  clear H2
  go_wp2_with fail
  clear q0 q1 q2 q3 q4 f0 f1 f2 f3 f4
  change bodyPost _ _ _ _ _ (setDesc w2 w.heap.size n a z u c)
  have SF := ZZ.out.five n a z u c
  have BF := B2.out.trans (below_desc (B := w.heap.size) (w := w2) (b := w.heap.size) (Nat.le_refl _) n a z u c)
  generalize setDesc w2 w.heap.size n a z u c = wz at SF BF ⊢
  have e0 := SF.c0; have e1 := SF.c1; have e2 := SF.c2; have e3 := SF.c3; have e4 := SF.c4
  exact bodyPost_ret (v := .agg #[.int .i64 n, .int .i64 a, .int .i64 z, .int .i64 u, .bool c]) (by simp [results, Try.results13, go_sem, e0, e1, e2, e3, e4]) rfl ⟨_, _, _, _, _, rfl, BF⟩
set_option maxHeartbeats 2000000 in
set_option maxRecDepth 100000 in
theorem drawDescFromBytes_any (ai : Option Addr) (len capi : Nat) (cs : List Int) (w : World) (hr : RdB w w.heap.size ai len cs) (hn : len ≤ 1048576) :
    Calls Try.prog 18 #[.slice ai len capi] w (DrawnXs w) := by
  have HR := Lib.hid hr; clear hr
  go_enter Try.func18, Try.ntmps18
  go_wp2_with fail
  refine (from_any _ _ _ cs _ HR.out hn).mono ?_
  rintro e w1 ⟨p, rfl, hlo, hs1, hb1⟩
  have H1 : Hid (HeldS 2 97 w w1 p []) := HeldS.start hb1 hlo hs1
  clear hlo hs1 hb1
  go_wp2_with fail
  refine (l08Draw_any _ _ H1.out.src).mono ?_
  rintro e w2 ⟨n, a, z, u, c, rfl, hok, hs2, g2⟩
  have H2 := Lib.hid (H1.out.next hs2 g2)
  have HOK := Lib.hid hok
  clear hs2 g2 H1 hok
  go_wp2_with fail
  refine (l08Bytes_any _ _ _ _ _ _ (drawn_in HOK.out)).mono ?_
  rintro e w3 m3
  have hl5 := descBytes_len ⟨n, a, z, u, c⟩
  generalize descBytes ⟨n, a, z, u, c⟩ = xs at m3 hl5
  obtain ⟨ao, cap, rfl, o3, -, b3⟩ := m3.get
  rw [hl5] at o3 ⊢
  have hcap := Own.cap o3
  obtain ⟨g, rfl⟩ := own_block1 (n := 5) o3 (by omega)
  have H3 := Lib.hid (H2.out.make o3 b3)
  have HL := Lib.hid hl5
  clear m3 o3 b3 H2 hl5 HOK
  go_wp2_with fail
  refine (next_any _ _ _ H3.out.src (by omega)).mono ?_
  rintro e w4 ⟨y, rfl, -, -, -, hs4, g4⟩
  have H4 := Lib.hid (H3.out.next hs4 g4)
  clear hs4 g4 H3
  by_cases h0 : y = 0
  · subst h0
    go_wp2_with fail
    refine (next_any _ _ _ H4.out.src (by omega)).mono ?_
    rintro e w5 ⟨i, rfl, i0, i1, -, hs5, g5⟩
    have H5 := Lib.hid (H4.out.next hs5 g5)
    clear hs5 g5 H4
    replace i1 := i1 (by omega)
    obtain ⟨i, rfl⟩ := Int.eq_ofNat_of_zero_le i0
    have hi : i < 5 := by omega
    go_wp2_with fail
    refine (next_any _ _ _ H5.out.src (by omega)).mono ?_
    rintro e w6 ⟨v, rfl, -, -, -, hs6, g6⟩
    have H6 := Lib.hid (H5.out.next hs6 g6)
    clear hs6 g6 H5 i0
    obtain ⟨c1, c2, o6, b6⟩ := own_store (H6.out.get 0 rfl) HL.out hi v
    have O6 := Lib.hid o6
    have B6 := Lib.hid (H6.out.below.trans b6)
    clear o6 b6 H6
    go_wp2
    go_ret
    have hl6 : (xs.set i v).length = 5 := by rw [List.length_set]; exact HL.out
    obtain ⟨_, _, ee, -, rr⟩ := O6.out.get
    rw [hl6] at ee rr
    cases ee
    exact ⟨_, _, xs.set i v, by rw [hl6]; rfl, by rw [hl6]; exact rr, by omega, by omega, hcap.2, B6.out⟩
  have t0 : (y == 0) = false := by simp [h0]
  by_cases h1 : y = 1
  · subst h1
    clear t0 h0
    have hc5 : (4 : Int) ≤ cap := by omega
    have R4 := Lib.hid (rd_first (H4.out.rd 0 rfl HL.out) (k := 4) (by omega))
    have hl4 : (xs.take 4).length = 4 := by rw [List.length_take, HL.out]; rfl
    go_wp2
    go_ret
    exact ⟨_, _, xs.take 4, by rw [hl4]; rfl, by rw [hl4]; exact R4.out, by omega, by omega, hcap.2, H4.out.below⟩
  have t1 : (y == 1) = false := by simp [h1]
  by_cases h2 : y = 2
  · subst h2
    clear t0 h0 t1 h1
    have hl2 : xs.length ≤ 4294967296 := by have := HL.out; omega
    have hlo := H4.out.src.lt
    have hsz := H4.out.below.size
    go_wp2_with (at_builtin; refine append_one _ rfl (.tmp 26) (.tmp 27) rfl w.heap.size Try.underlying27 info64 _ _ rfl ((H4.out.get 0 rfl).below ((Below.refl _ _).alloc (Nat.le_refl _) _)) _ _ _ rfl (new_cell rfl) hl2 (by simp; omega) ?_; intro v' w' hown hbel)
    go_ret
    obtain ⟨ao', cap', rfl, o', r'⟩ := hown.get
    have hc' := Own.cap o'
    have hl' : (xs ++ [0]).length = 6 := by rw [List.length_append, HL.out]; rfl
    exact ⟨_, _, xs ++ [0], rfl, r', by omega, hc'.1, hc'.2, (H4.out.below.trans ((Below.refl _ _).alloc hsz _)).trans hbel⟩
  have t2 : (y == 2) = false := by simp [h2]
  have R4 := Lib.hid (H4.out.rd 0 rfl HL.out)
  go_wp2
  go_ret
  exact ⟨_, _, xs, by rw [HL.out]; rfl, by rw [HL.out]; exact R4.out, by have := HL.out; omega, by have := HL.out; omega, hcap.2, H4.out.below⟩
end Go.Proofs.Ytjejflngaelgkaa
