/-
  Chapter 8: DrawDescriptorToBytes, DrawDescriptorFromBytes.
  Chapter 8: DrawEmptyFrame, DrawFitsDescriptor.
-/
import Derived.Test.YtbdfnkhmnglpbaaDA
import Derived.Test.YtbdfnkhmnglpbaaSixI
import Derived.Test.YtbdfnkhmnglpbaaDrawC
import Derived.Test.YtbdfnkhmnglpbaaFourD
import Derived.Deep.RegionHeld3
namespace Go.Proofs.Ytbdfnkhmnglpbaa
section
open Go.RowKit

/-- What a draw of a descriptor out of a code leaves. -/
def DrawnDe (w : World) (e : Ending) (w' : World) : Prop :=
  ∃ (n a z u : Int) (c : Bool), e = .returned (.agg #[.int .i64 n, .int .i64 a, .int .i64 z, .int .i64 u, .bool c]) ∧ Below w.heap.size w w'
set_option maxHeartbeats 1000000 in
set_option maxRecDepth 100000 in
theorem drawDescToBytes_any (ai : Option Addr) (len capi : Nat) (cs : List Int) (w : World) (hr : RdB w w.heap.size ai len cs) (hn : len ≤ 1048576) :
    Calls Try.prog 35 #[.slice ai len capi] w (DrawnDe w) := by
  have hb0 : Below w.heap.size w (w.alloc (.cells #[.int .i64 0, .int .i64 0, .int .i64 0, .int .i64 0, .bool false] 49)) := (Below.refl _ _).alloc (Nat.le_refl _) _
  have hr0 := rdB_grow hr hb0
  have z1 := DescAt.new (T := 49) (n := 0) (a := 0) (z := 0) (u := 0) (c := false) w
  have HB := Lib.hid hb0; clear hb0
  have HR := Lib.hid hr0; clear hr0 hr
  have Z1 := Lib.hid z1; clear z1
  go_enter Try.func35, Try.ntmps35
  go_wp2_with fail
  generalize (w.alloc (.cells #[.int .i64 0, .int .i64 0, .int .i64 0, .int .i64 0, .bool false] 49)) = w0 at HB HR Z1 ⊢
  refine (from_any _ _ _ cs _ HR.out hn).mono ?_
  rintro e w1 ⟨p, rfl, hlo, hs1, hb1⟩
  have H1 : Hid (HeldS 2 133 w0 w1 p []) := HeldS.start hb1 hlo hs1
  clear hs1 hb1
  go_wp2_with fail
  refine (l08DrawAny_any _ _ H1.out.src).mono ?_
  rintro e w2 ⟨n, a, z, u, c, rfl, hs2, g2⟩
  have H2 := Lib.hid (H1.out.next hs2 g2)
  clear hs2 g2 H1
  have ZZ := Lib.hid (Z1.out.below H2.out.below Z1.out.lt)
  have B2 := Lib.hid (below_two HB.out H2.out.below)
  have q0 := ZZ.out.c0; have q1 := ZZ.out.c1; have q2 := ZZ.out.c2; have q3 := ZZ.out.c3; have q4 := ZZ.out.c4
  have f0 := ZZ.out.f 0; have f1 := ZZ.out.f 1; have f2 := ZZ.out.f 2; have f3 := ZZ.out.f 3; have f4 := ZZ.out.f 4
  clear H2
  go_wp2_with fail
  clear q0 q1 q2 q3 q4 f0 f1 f2 f3 f4
  change bodyPost _ _ _ _ _ (setDesc w2 w.heap.size n a z u c)
  have SF := ZZ.out.five n a z u c
  have BF := B2.out.trans (below_desc (B := w.heap.size) (w := w2) (b := w.heap.size) (Nat.le_refl _) n a z u c)
  generalize setDesc w2 w.heap.size n a z u c = wz at SF BF ⊢
  have e0 := SF.c0; have e1 := SF.c1; have e2 := SF.c2; have e3 := SF.c3; have e4 := SF.c4
  exact bodyPost_ret (v := .agg #[.int .i64 n, .int .i64 a, .int .i64 z, .int .i64 u, .bool c]) (by simp [results, Try.results35, go_sem, e0, e1, e2, e3, e4]) rfl ⟨_, _, _, _, _, rfl, BF⟩
set_option maxHeartbeats 2000000 in
set_option maxRecDepth 100000 in
theorem drawDescFromBytes_any (ai : Option Addr) (len capi : Nat) (cs : List Int) (w : World) (hr : RdB w w.heap.size ai len cs) (hn : len ≤ 1048576) :
    Calls Try.prog 40 #[.slice ai len capi] w (DrawnXs w) := by
  have HR := Lib.hid hr; clear hr
  go_enter Try.func40, Try.ntmps40
  go_wp2_with fail
  refine (from_any _ _ _ cs _ HR.out hn).mono ?_
  rintro e w1 ⟨p, rfl, hlo, hs1, hb1⟩
  have H1 : Hid (HeldS 2 133 w w1 p []) := HeldS.start hb1 hlo hs1
  clear hlo hs1 hb1
  go_wp2_with fail
  refine (l08Draw_any _ _ H1.out.src).mono ?_
  rintro e w2 ⟨n, a, z, u, c, rfl, hok, hs2, g2⟩
  have H2 := Lib.hid (H1.out.next hs2 g2)
  have HOK := Lib.hid hok
  clear hs2 g2 H1 hok
  go_wp2_with fail
  refine (l08Bytes_any _ _ _ _ _ _ (drawn_in HOK.out)).mono ?_
  rintro e w3 m3
  have hl5 := descBytes_len ⟨n, a, z, u, c⟩
  generalize descBytes ⟨n, a, z, u, c⟩ = xs at m3 hl5
  obtain ⟨ao, cap, rfl, o3, -, b3⟩ := m3.get
  rw [hl5] at o3 ⊢
  have hcap := Own.cap o3
  obtain ⟨g, rfl⟩ := own_block1 (n := 5) o3 (by omega)
  have H3 := Lib.hid (H2.out.make o3 b3)
  have HL := Lib.hid hl5
  clear m3 o3 b3 H2 hl5 HOK
  go_wp2_with fail
  refine (next_any _ _ _ H3.out.src (by omega)).mono ?_
  rintro e w4 ⟨y, rfl, -, -, -, hs4, g4⟩
  have H4 := Lib.hid (H3.out.next hs4 g4)
  clear hs4 g4 H3
  by_cases h0 : y = 0
  · subst h0
    go_wp2_with fail
    refine (next_any _ _ _ H4.out.src (by omega)).mono ?_
    rintro e w5 ⟨i, rfl, i0, i1, -, hs5, g5⟩
    have H5 := Lib.hid (H4.out.next hs5 g5)
    clear hs5 g5 H4
    replace i1 := i1 (by omega)
    obtain ⟨i, rfl⟩ := Int.eq_ofNat_of_zero_le i0
    have hi : i < 5 := by omega
    go_wp2_with fail
    refine (next_any _ _ _ H5.out.src (by omega)).mono ?_
    rintro e w6 ⟨v, rfl, -, -, -, hs6, g6⟩
    have H6 := Lib.hid (H5.out.next hs6 g6)
    clear hs6 g6 H5 i0
    obtain ⟨c1, c2, o6, b6⟩ := own_store (H6.out.get 0 rfl) HL.out hi v
    have O6 := Lib.hid o6
    have B6 := Lib.hid (H6.out.below.trans b6)
    clear o6 b6 H6
    go_wp2
    go_ret
    have hl6 : (xs.set i v).length = 5 := by rw [List.length_set]; exact HL.out
    obtain ⟨_, _, ee, -, rr⟩ := O6.out.get
    rw [hl6] at ee rr
    cases ee
    exact ⟨_, _, xs.set i v, by rw [hl6]; rfl, by rw [hl6]; exact rr, by omega, by omega, hcap.2, B6.out⟩
  have t0 : (y == 0) = false := by simp [h0]
  by_cases h1 : y = 1
  · subst h1
    clear t0 h0
    have hc5 : (4 : Int) ≤ cap := by omega
    have R4 := Lib.hid (rd_first (H4.out.rd 0 rfl HL.out) (k := 4) (by omega))
    have hl4 : (xs.take 4).length = 4 := by rw [List.length_take, HL.out]; rfl
    go_wp2
    go_ret
    exact ⟨_, _, xs.take 4, by rw [hl4]; rfl, by rw [hl4]; exact R4.out, by omega, by omega, hcap.2, H4.out.below⟩
  have t1 : (y == 1) = false := by simp [h1]
  by_cases h2 : y = 2
  · subst h2
    clear t0 h0 t1 h1
    have hl2 : xs.length ≤ 4294967296 := by have := HL.out; omega
    have hlo := H4.out.src.lt
    have hsz := H4.out.below.size
    go_wp2_with (at_builtin; refine append_one _ rfl (.tmp 26) (.tmp 27) rfl w.heap.size Try.underlying26 info64 _ _ rfl ((H4.out.get 0 rfl).below ((Below.refl _ _).alloc (Nat.le_refl _) _)) _ _ _ rfl (new_cell rfl) hl2 (by simp; omega) ?_; intro v' w' hown hbel)
    go_ret
    obtain ⟨ao', cap', rfl, o', r'⟩ := hown.get
    have hc' := Own.cap o'
    have hl' : (xs ++ [0]).length = 6 := by rw [List.length_append, HL.out]; rfl
    exact ⟨_, _, xs ++ [0], rfl, r', by omega, hc'.1, hc'.2, (H4.out.below.trans ((Below.refl _ _).alloc hsz _)).trans hbel⟩
  have t2 : (y == 2) = false := by simp [h2]
  have R4 := Lib.hid (H4.out.rd 0 rfl HL.out)
  go_wp2
  go_ret
  exact ⟨_, _, xs, by rw [HL.out]; rfl, by rw [HL.out]; exact R4.out, by have := HL.out; omega, by have := HL.out; omega, hcap.2, H4.out.below⟩
end

section
open Go.RowKit

theorem StateAt.otherDesc {T b e : Nat} {w : World} {t m r s k : Int} (h : StateAt T w b t m r s k) (hne : b ≠ e) (n a z u : Int) (c : Bool) : StateAt T (setDesc w e n a z u c) b t m r s k :=
  ((((h.other hne).other hne).other hne).other hne).other hne
theorem FrameAt.otherDesc {T b e : Nat} {w : World} {x q t m r s k : Int} {v : Value} (h : FrameAt T w b x q t m r s k v) (hne : b ≠ e) (n a z u : Int) (c : Bool) : FrameAt T (setDesc w e n a z u c) b x q t m r s k v :=
  ((((h.other hne).other hne).other hne).other hne).other hne
theorem DescAt.otherFive {T b e : Nat} {w : World} {n a z u : Int} {c : Bool} (h : DescAt T w b n a z u c) (hne : b ≠ e) (t m r s k : Int) : DescAt T (setFive w e t m r s k) b n a z u c :=
  ((((h.other hne).other hne).other hne).other hne).other hne
theorem DescAt.otherEight {T b e : Nat} {w : World} {n a z u : Int} {c : Bool} (h : DescAt T w b n a z u c) (hne : b ≠ e) (x q t m r s k : Int) (v : Value) : DescAt T (setEight w e x q t m r s k v) b n a z u c :=
  (((((((h.other hne).other hne).other hne).other hne).other hne).other hne).other hne).other hne
theorem Own.awayDesc {E base b : Nat} {w : World} {v : Value} {xs : List Int} (h : Own E w base v xs) (hb : b < base) (n a z u : Int) (c : Bool) : Own E (setDesc w b n a z u c) base v xs := ((((h.away hb _ _).away hb _ _).away hb _ _).away hb _ _).away hb _ _
theorem DescAt.keepFive {T b e : Nat} {w : World} {n a z u : Int} {c : Bool} (h : DescAt T w b n a z u c) (hne : b ≠ e) (n' a' z' u' : Int) (c' : Bool) : DescAt T (setDesc w e n' a' z' u' c') b n a z u c :=
  ((((h.other hne).other hne).other hne).other hne).other hne
theorem StateAt.keepFive {T b e : Nat} {w : World} {t m r s k : Int} (h : StateAt T w b t m r s k) (hne : b ≠ e) (t' m' r' s' k' : Int) : StateAt T (setFive w e t' m' r' s' k') b t m r s k :=
  ((((h.other hne).other hne).other hne).other hne).other hne
theorem FrameAt.keepEight {T b e : Nat} {w : World} {x q t m r s k : Int} {v : Value} (h : FrameAt T w b x q t m r s k v) (hne : b ≠ e) (x' q' t' m' r' s' k' : Int) (v' : Value) : FrameAt T (setEight w e x' q' t' m' r' s' k' v') b x q t m r s k v :=
  (((((((h.other hne).other hne).other hne).other hne).other hne).other hne).other hne).other hne
/-- What a draw of a descriptor and a state leaves. -/
def DrawnEmp (w : World) (e : Ending) (w' : World) : Prop :=
  ∃ (n a z u : Int) (c : Bool) (t m r s k : Int), e = .returned (.tuple #[.agg #[.int .i64 n, .int .i64 a, .int .i64 z, .int .i64 u, .bool c], .agg #[.int .i64 t, .int .i64 m, .int .i64 r, .int .i64 s, .int .i64 k]]) ∧ Below w.heap.size w w'
/-- What a draw of a descriptor and a frame leaves. -/
def DrawnFit (w : World) (e : Ending) (w' : World) : Prop :=
  ∃ (n a z u : Int) (c : Bool) (b q t m r s k : Int) (ao : Option Addr) (cap : Nat) (d : List Int), e = .returned (.tuple #[.agg #[.int .i64 n, .int .i64 a, .int .i64 z, .int .i64 u, .bool c], .agg #[.int .i64 b, .int .i64 q, .int .i64 t, .int .i64 m, .int .i64 r, .int .i64 s, .int .i64 k, .slice ao d.length cap]]) ∧ Own 2 w' w.heap.size (.slice ao d.length cap) d ∧ d.length ≤ 9000 ∧ Below w.heap.size w w'
theorem l06BodySize_ex (a n : Int) (w : World) : Calls Try.prog 146 #[.int .i64 a, .int .i64 n] w fun e w' => (∃ y, e = .returned (.int .i64 y)) ∧ w = w' := by
  obtain ⟨x, hx⟩ : ∃ x, (a != 0) = x := ⟨_, rfl⟩
  obtain ⟨y, hy⟩ : ∃ y, hasData a = y := ⟨_, rfl⟩
  have HX := Lib.hid hx; have HY := Lib.hid hy; clear hx hy
  cases x <;> cases y
  · go_enter Try.func146, Try.ntmps146
    go_wp2_with (first | (go_at_call 70; refine (l06State_any _ _).mono ?_; rintro e w' ⟨rfl, rfl⟩; rw [HX.out]) | (go_at_call 129; refine (l06Data_any _ _).mono ?_; rintro e w' ⟨rfl, rfl⟩; rw [HY.out]))
    go_ret
    exact ⟨⟨_, rfl⟩, rfl⟩
  · go_enter Try.func146, Try.ntmps146
    go_wp2_with (first | (go_at_call 70; refine (l06State_any _ _).mono ?_; rintro e w' ⟨rfl, rfl⟩; rw [HX.out]) | (go_at_call 129; refine (l06Data_any _ _).mono ?_; rintro e w' ⟨rfl, rfl⟩; rw [HY.out]))
    go_ret
    exact ⟨⟨_, rfl⟩, rfl⟩
  · go_enter Try.func146, Try.ntmps146
    go_wp2_with (first | (go_at_call 70; refine (l06State_any _ _).mono ?_; rintro e w' ⟨rfl, rfl⟩; rw [HX.out]) | (go_at_call 129; refine (l06Data_any _ _).mono ?_; rintro e w' ⟨rfl, rfl⟩; rw [HY.out]))
    go_ret
    exact ⟨⟨_, rfl⟩, rfl⟩
  · go_enter Try.func146, Try.ntmps146
    go_wp2_with (first | (go_at_call 70; refine (l06State_any _ _).mono ?_; rintro e w' ⟨rfl, rfl⟩; rw [HX.out]) | (go_at_call 129; refine (l06Data_any _ _).mono ?_; rintro e w' ⟨rfl, rfl⟩; rw [HY.out]))
    go_ret
    exact ⟨⟨_, rfl⟩, rfl⟩
theorem l08Cells_ex (a n : Int) (w : World) : Calls Try.prog 100 #[.int .i64 a, .int .i64 n] w fun e w' => (∃ y, e = .returned (.int .i64 y)) ∧ w = w' := by
  go_enter Try.func100, Try.ntmps100
  go_wp2_with fail
  refine (l06BodySize_ex _ _ _).mono ?_
  rintro e w1 ⟨⟨y, rfl⟩, rfl⟩
  go_wp2
  go_ret
  exact ⟨⟨_, rfl⟩, rfl⟩
theorem held_step {E T B : Nat} {w0 w w' : World} {p : Nat} (h : HeldS E T w0 w p []) (b : Below B w w') (hp : p < B) (hB : w0.heap.size ≤ B) : HeldS E T w0 w' p [] :=
  ⟨h.below.trans (b.mono hB), h.lo, h.src.belowB b hp, (fun _ h => by cases h), List.Pairwise.nil⟩
theorem own_notJ' {E base J : Nat} {w w' : World} {v : Value} {xs : List Int} (h : Own E w base v xs) (hj : ∀ k, v.ownBlock = some k → k ≠ J) (g : w.grownBy w' (some J)) : Own E w' base v xs := by
  refine h.only g ?_
  cases hk : v.ownBlock with
  | none => exact .inl rfl
  | some i => exact .inr (fun e => hj i hk (by simpa using e))
set_option maxHeartbeats 4000000 in
set_option maxRecDepth 100000 in
set_option linter.unusedVariables false in
set_option linter.unusedSimpArgs false in
theorem drawEmptyFrame_any (ai : Option Addr) (len capi : Nat) (cs : List Int) (w : World) (hr : RdB w w.heap.size ai len cs) (hn : len ≤ 1048576) :
    Calls Try.prog 48 #[.slice ai len capi] w (DrawnEmp w) := by
  have hb1 : Below w.heap.size w (w.alloc (.cells #[.int .i64 0, .int .i64 0, .int .i64 0, .int .i64 0, .bool false] 49)) := (Below.refl _ _).alloc (Nat.le_refl _) _
  have e1 : (w.alloc (.cells #[.int .i64 0, .int .i64 0, .int .i64 0, .int .i64 0, .bool false] 49)).heap.size = w.heap.size + 1 := by simp
  have hb2 : Below (w.alloc (.cells #[.int .i64 0, .int .i64 0, .int .i64 0, .int .i64 0, .bool false] 49)).heap.size (w.alloc (.cells #[.int .i64 0, .int .i64 0, .int .i64 0, .int .i64 0, .bool false] 49)) ((w.alloc (.cells #[.int .i64 0, .int .i64 0, .int .i64 0, .int .i64 0, .bool false] 49)).alloc (.cells #[.int .i64 0, .int .i64 0, .int .i64 0, .int .i64 0, .int .i64 0] 25)) := (Below.refl _ _).alloc (Nat.le_refl _) _
  have e2 : ((w.alloc (.cells #[.int .i64 0, .int .i64 0, .int .i64 0, .int .i64 0, .bool false] 49)).alloc (.cells #[.int .i64 0, .int .i64 0, .int .i64 0, .int .i64 0, .int .i64 0] 25)).heap.size = w.heap.size + 2 := by simp
  have z1 : DescAt 49 ((w.alloc (.cells #[.int .i64 0, .int .i64 0, .int .i64 0, .int .i64 0, .bool false] 49)).alloc (.cells #[.int .i64 0, .int .i64 0, .int .i64 0, .int .i64 0, .int .i64 0] 25)) w.heap.size 0 0 0 0 false := (DescAt.new w).below hb2 (by omega)
  have z2 := StateAt.new (T := 25) (t := 0) (m := 0) (r := 0) (s := 0) (k := 0) (w.alloc (.cells #[.int .i64 0, .int .i64 0, .int .i64 0, .int .i64 0, .bool false] 49))
  rw [e1] at z2
  have HB := Lib.hid (below_two hb1 hb2)
  have HR := Lib.hid (rdB_grow hr (below_two hb1 hb2))
  have Z1 := Lib.hid z1; have Z2 := Lib.hid z2; have HE := Lib.hid e2
  clear hb1 hb2 z1 z2 e1 e2 hr
  go_enter Try.func48, Try.ntmps48
  go_wp2_with fail
  generalize ((w.alloc (.cells #[.int .i64 0, .int .i64 0, .int .i64 0, .int .i64 0, .bool false] 49)).alloc (.cells #[.int .i64 0, .int .i64 0, .int .i64 0, .int .i64 0, .int .i64 0] 25)) = w0 at HB HR Z1 Z2 HE ⊢
  refine (from_any _ _ _ cs _ HR.out hn).mono ?_
  rintro e w1 ⟨p, rfl, hlo, hs1, hb1⟩
  have H : Hid (HeldS 2 133 w0 w1 p []) := HeldS.start hb1 hlo hs1
  rw [show w0.heap.size = w.heap.size + 2 from HE.out] at hlo
  replace Z1 := Lib.hid (Z1.out.below hb1 Z1.out.lt)
  replace Z2 := Lib.hid (Z2.out.below hb1 Z2.out.lt)
  clear hs1 hb1
  go_wp2_with fail
  refine (l08DrawAny_any _ _ H.out.src).mono ?_
  rintro e w2 ⟨n, a, z, u, c, rfl, hs2, g2⟩
  replace Z1 := Lib.hid (Z1.out.grown g2 (by simp; omega))
  replace Z2 := Lib.hid (Z2.out.grown g2 (by simp; omega))
  replace H := Lib.hid (H.out.next hs2 g2)
  clear hs2 g2
  have hpl := H.out.src.lt
  have bal : Below w2.heap.size w2 (w2.alloc (.cells #[.int .i64 n, .int .i64 a, .int .i64 z, .int .i64 u, .bool c] 49)) := (Below.refl _ _).alloc (Nat.le_refl _) _
  have V1 := Lib.hid (DescAt.new (T := 49) (n := n) (a := a) (z := z) (u := u) (c := c) w2)
  have hJ0 : w.heap.size + 1 < w2.heap.size := Z2.out.lt
  replace Z1 := Lib.hid (Z1.out.below bal Z1.out.lt)
  replace Z2 := Lib.hid (Z2.out.below bal Z2.out.lt)
  replace H := Lib.hid (H.out.still bal)
  clear bal
  go_upto_region 3 with fail
  obtain ⟨J, hJ⟩ : ∃ J, J = w2.heap.size := ⟨_, rfl⟩
  rw [← hJ] at V1 hpl hJ0 ⊢
  clear hJ
  generalize w2.alloc (.cells #[.int .i64 n, .int .i64 a, .int .i64 z, .int .i64 u, .bool c] 49) = w3 at V1 Z1 Z2 H ⊢
  go_wp2_with fail
  refine (l04DrawAny_any _ _ H.out.src).mono ?_
  rintro e w4 ⟨t, m, r, s, k, rfl, hs4, g4⟩
  replace Z1 := Lib.hid (Z1.out.grown g4 (by simp; omega))
  replace Z2 := Lib.hid (Z2.out.grown g4 (by simp; omega))
  replace V1 := Lib.hid (V1.out.grown g4 (by simp; omega))
  replace H := Lib.hid (H.out.next hs4 g4)
  clear hs4 g4
  have bal : Below w4.heap.size w4 (w4.alloc (.cells #[.int .i64 t, .int .i64 m, .int .i64 r, .int .i64 s, .int .i64 k] 25)) := (Below.refl _ _).alloc (Nat.le_refl _) _
  have V2 := Lib.hid (StateAt.new (T := 25) (t := t) (m := m) (r := r) (s := s) (k := k) w4)
  have hK0 : J < w4.heap.size := V1.out.lt
  replace Z1 := Lib.hid (Z1.out.below bal Z1.out.lt)
  replace Z2 := Lib.hid (Z2.out.below bal Z2.out.lt)
  replace V1 := Lib.hid (V1.out.below bal V1.out.lt)
  replace H := Lib.hid (H.out.still bal)
  clear bal
  go_upto_region 4 with fail
  obtain ⟨KB, hKB⟩ : ∃ KB, KB = w4.heap.size := ⟨_, rfl⟩
  rw [← hKB] at V2 hK0 ⊢
  clear hKB
  generalize w4.alloc (.cells #[.int .i64 t, .int .i64 m, .int .i64 r, .int .i64 s, .int .i64 k] 25) = w5 at V1 V2 Z1 Z2 H ⊢
  go_wp2_with fail
  refine (next_any _ _ _ H.out.src (by omega)).mono ?_
  rintro e w6 ⟨y, rfl, y0, -, -, hs6, g6⟩
  replace Z1 := Lib.hid (Z1.out.grown g6 (by simp; omega))
  replace Z2 := Lib.hid (Z2.out.grown g6 (by simp; omega))
  replace V1 := Lib.hid (V1.out.grown g6 (by simp; omega))
  replace V2 := Lib.hid (V2.out.grown g6 (by simp; omega))
  replace H := Lib.hid (H.out.next hs6 g6)
  clear hs6 g6
  by_cases h0 : y = 0
  · subst h0
    have cc1 := V2.out.c1; have ff1 := V2.out.f 1
    go_upto_region 6 with fail
    clear cc1 ff1
    have bs : Below KB w6 (w6.setCell ⟨KB, 1, none⟩ (.int .i64 0)) := (Below.refl KB w6).setCell (by exact Nat.le_refl _) _
    replace Z1 := Lib.hid (Z1.out.below bs (by omega))
    replace Z2 := Lib.hid (Z2.out.below bs (by omega))
    replace V1 := Lib.hid (V1.out.below bs (by omega))
    replace V2 := Lib.hid (V2.out.set1 0)
    replace H := Lib.hid (held_step H.out bs (by omega) (by have := HE.out; omega))
    clear bs
    generalize w6.setCell ⟨KB, 1, none⟩ (.int .i64 0) = w6a at Z1 Z2 V1 V2 H ⊢
    have cc4 := V2.out.c4; have ff4 := V2.out.f 4
    go_upto_region 7 with fail
    clear cc4 ff4
    have bs : Below KB w6a (w6a.setCell ⟨KB, 4, none⟩ (.int .i64 4)) := (Below.refl KB w6a).setCell (by exact Nat.le_refl _) _
    replace Z1 := Lib.hid (Z1.out.below bs (by omega))
    replace Z2 := Lib.hid (Z2.out.below bs (by omega))
    replace V1 := Lib.hid (V1.out.below bs (by omega))
    replace V2 := Lib.hid (V2.out.set4 4)
    replace H := Lib.hid (held_step H.out bs (by omega) (by have := HE.out; omega))
    clear bs
    generalize w6a.setCell ⟨KB, 4, none⟩ (.int .i64 4) = w6b at Z1 Z2 V1 V2 H ⊢
    go_upto_region 7 with fail
    have Z1d : Hid (DescAt 49 w6b.drew w.heap.size 0 0 0 0 false) := Z1; have V1d : Hid (DescAt 49 w6b.drew J n a z u c) := V1; have Z2d : Hid (StateAt 25 w6b.drew (w.heap.size + 1) 0 0 0 0 0) := Z2; have V2d : Hid (StateAt 25 w6b.drew KB t 0 r s 4) := V2
    have HD := Lib.hid (H.out.still (Below.drew (Below.refl _ _)))
    clear Z1 Z2 V1 V2 H
    refine wp_region_held_drew (S := fun w' => w'.cell? ⟨J, 0, none⟩ = some (.int .i64 n) ∧ w'.cell? ⟨J, 1, none⟩ = some (.int .i64 a) ∧ w'.cell? ⟨J, 2, none⟩ = some (.int .i64 z) ∧ w'.cell? ⟨J, 3, none⟩ = some (.int .i64 u) ∧ w'.cell? ⟨J, 4, none⟩ = some (.bool c) ∧ w'.cell? ⟨KB, 0, none⟩ = some (.int .i64 t) ∧ w'.cell? ⟨KB, 1, none⟩ = some (.int .i64 0) ∧ w'.cell? ⟨KB, 2, none⟩ = some (.int .i64 r) ∧ w'.cell? ⟨KB, 3, none⟩ = some (.int .i64 s) ∧ w'.cell? ⟨KB, 4, none⟩ = some (.int .i64 4)) (by kernel_rfl) (⟨V1d.out.c0, V1d.out.c1, V1d.out.c2, V1d.out.c3, V1d.out.c4, V2d.out.c0, V2d.out.c1, V2d.out.c2, V2d.out.c3, V2d.out.c4⟩) (fun hHeld => ?_)
    generalize w6b.drew = w7 at Z1d Z2d V1d V2d HD hHeld ⊢
    refine wpAnyH_take (i := 0) (v := ?_) rfl (by kernel_rfl) (by kernel_rfl) (by kernel_rfl) (fun _ _ _ h => h) (Or.inl ⟨by rfl, ?_⟩) (by assumption) ?_
    rotate_left
    · (intro w hSw; (try dsimp only at hSw); go_simp; (try with_reducible rfl))
    try simp only [List.getElem_toArray, List.getElem_cons_succ, List.getElem_cons_zero, Act.put, List.setIfInBounds_toArray, List.set_cons_zero, List.set_cons_succ]
    refine wpAnyH_take (i := 1) (v := ?_) rfl (by kernel_rfl) (by kernel_rfl) (by kernel_rfl) (fun _ _ _ h => h) (Or.inl ⟨by rfl, ?_⟩) (by assumption) ?_
    rotate_left
    · (intro w hSw; (try dsimp only at hSw); go_simp; (try with_reducible rfl))
    try simp only [List.getElem_toArray, List.getElem_cons_succ, List.getElem_cons_zero, Act.put, List.setIfInBounds_toArray, List.set_cons_zero, List.set_cons_succ]
    have q0 := Z1d.out.c0; have f0 := Z1d.out.f 0
    have q1 := Z1d.out.c1; have f1 := Z1d.out.f 1
    have q2 := Z1d.out.c2; have f2 := Z1d.out.f 2
    have q3 := Z1d.out.c3; have f3 := Z1d.out.f 3
    have q4 := Z1d.out.c4; have f4 := Z1d.out.f 4
    refine wpAnyH_ready (rs := [2]) (by kernel_rfl) (by simp) (AllReadyH.cons rfl (fun K hK => ?_) AllReadyH.nil)
    go_simp
    clear q0 q1 q2 q3 q4 f0 f1 f2 f3 f4
    change K _ (setDesc w7 w.heap.size n a z u c)
    have SF := Z1d.out.five n a z u c
    have Z3 := Z2d.out.otherDesc (e := w.heap.size) (by omega) n a z u c
    have V3 := V1d.out.keepFive (e := w.heap.size) (by omega) n a z u c
    have V4 := V2d.out.otherDesc (e := w.heap.size) (by omega) n a z u c
    have BW := below_desc (B := w.heap.size) (w := w7) (b := w.heap.size) (Nat.le_refl _) n a z u c
    have BF := (HB.out.trans (HD.out.below.mono (by have := HE.out; omega))).trans BW
    generalize setDesc w7 w.heap.size n a z u c = w8 at SF Z3 V3 V4 BF BW ⊢
    refine hK.out _ _ ?_ (fun hHeld => ?_)
    · exact ⟨V3.c0, V3.c1, V3.c2, V3.c3, V3.c4, V4.c0, V4.c1, V4.c2, V4.c3, V4.c4⟩
    clear hK K
    try simp only [List.getElem_toArray, List.getElem_cons_succ, List.getElem_cons_zero, Act.put, List.setIfInBounds_toArray, List.set_cons_zero, List.set_cons_succ]
    have q0 := Z3.c0; have f0 := Z3.f 0
    have q1 := Z3.c1; have f1 := Z3.f 1
    have q2 := Z3.c2; have f2 := Z3.f 2
    have q3 := Z3.c3; have f3 := Z3.f 3
    have q4 := Z3.c4; have f4 := Z3.f 4
    refine wpAnyH_ready (rs := [3]) (by kernel_rfl) (by simp) (AllReadyH.cons rfl (fun K hK => ?_) AllReadyH.nil)
    go_simp
    clear q0 f0 q1 f1 q2 f2 q3 f3 q4 f4
    change K _ (setFive w8 (w.heap.size + 1) t 0 r s 4)
    have SG := Z3.five t 0 r s 4
    have SH := SF.otherFive (e := w.heap.size + 1) (by omega) t 0 r s 4
    have V5 := V3.otherFive (e := w.heap.size + 1) (by omega) t 0 r s 4
    have V6 := V4.keepFive (e := w.heap.size + 1) (by omega) t 0 r s 4
    have BG := BF.trans (below_five (B := w.heap.size) (w := w8) (b := w.heap.size + 1) (Nat.le_succ _) t 0 r s 4)
    generalize setFive w8 (w.heap.size + 1) t 0 r s 4 = w9 at SG SH V5 V6 BG ⊢
    refine hK.out _ _ ?_ (fun hHeld => ?_)
    · exact ⟨V5.c0, V5.c1, V5.c2, V5.c3, V5.c4, V6.c0, V6.c1, V6.c2, V6.c3, V6.c4⟩
    clear hK K
    try simp only [List.getElem_toArray, List.getElem_cons_succ, List.getElem_cons_zero, Act.put, List.setIfInBounds_toArray, List.set_cons_zero, List.set_cons_succ]
    refine wpAnyH_done (by kernel_rfl) ?_ _
    go_wp2_with fail
    have e0 := SH.c0
    have e1 := SH.c1
    have e2 := SH.c2
    have e3 := SH.c3
    have e4 := SH.c4
    have g0 := SG.c0
    have g1 := SG.c1
    have g2 := SG.c2
    have g3 := SG.c3
    have g4 := SG.c4
    exact bodyPost_ret (v := .tuple #[.agg #[.int .i64 n, .int .i64 a, .int .i64 z, .int .i64 u, .bool c], .agg #[.int .i64 t, .int .i64 0, .int .i64 r, .int .i64 s, .int .i64 4]]) (by simp [results, Try.results48, go_sem, e0, e1, e2, e3, e4, g0, g1, g2, g3, g4]) rfl ⟨_, _, _, _, _, _, _, _, _, _, rfl, BG⟩
  · have t0 : (y == 0) = false := by simp [h0]
    go_upto_region 7 with fail
    have Z1d : Hid (DescAt 49 w6.drew w.heap.size 0 0 0 0 false) := Z1; have V1d : Hid (DescAt 49 w6.drew J n a z u c) := V1; have Z2d : Hid (StateAt 25 w6.drew (w.heap.size + 1) 0 0 0 0 0) := Z2; have V2d : Hid (StateAt 25 w6.drew KB t m r s k) := V2
    have HD := Lib.hid (H.out.still (Below.drew (Below.refl _ _)))
    clear Z1 Z2 V1 V2 H
    refine wp_region_held_drew (S := fun w' => w'.cell? ⟨J, 0, none⟩ = some (.int .i64 n) ∧ w'.cell? ⟨J, 1, none⟩ = some (.int .i64 a) ∧ w'.cell? ⟨J, 2, none⟩ = some (.int .i64 z) ∧ w'.cell? ⟨J, 3, none⟩ = some (.int .i64 u) ∧ w'.cell? ⟨J, 4, none⟩ = some (.bool c) ∧ w'.cell? ⟨KB, 0, none⟩ = some (.int .i64 t) ∧ w'.cell? ⟨KB, 1, none⟩ = some (.int .i64 m) ∧ w'.cell? ⟨KB, 2, none⟩ = some (.int .i64 r) ∧ w'.cell? ⟨KB, 3, none⟩ = some (.int .i64 s) ∧ w'.cell? ⟨KB, 4, none⟩ = some (.int .i64 k)) (by kernel_rfl) (⟨V1d.out.c0, V1d.out.c1, V1d.out.c2, V1d.out.c3, V1d.out.c4, V2d.out.c0, V2d.out.c1, V2d.out.c2, V2d.out.c3, V2d.out.c4⟩) (fun hHeld => ?_)
    generalize w6.drew = w7 at Z1d Z2d V1d V2d HD hHeld ⊢
    refine wpAnyH_take (i := 0) (v := ?_) rfl (by kernel_rfl) (by kernel_rfl) (by kernel_rfl) (fun _ _ _ h => h) (Or.inl ⟨by rfl, ?_⟩) (by assumption) ?_
    rotate_left
    · (intro w hSw; (try dsimp only at hSw); go_simp; (try with_reducible rfl))
    try simp only [List.getElem_toArray, List.getElem_cons_succ, List.getElem_cons_zero, Act.put, List.setIfInBounds_toArray, List.set_cons_zero, List.set_cons_succ]
    refine wpAnyH_take (i := 1) (v := ?_) rfl (by kernel_rfl) (by kernel_rfl) (by kernel_rfl) (fun _ _ _ h => h) (Or.inl ⟨by rfl, ?_⟩) (by assumption) ?_
    rotate_left
    · (intro w hSw; (try dsimp only at hSw); go_simp; (try with_reducible rfl))
    try simp only [List.getElem_toArray, List.getElem_cons_succ, List.getElem_cons_zero, Act.put, List.setIfInBounds_toArray, List.set_cons_zero, List.set_cons_succ]
    have q0 := Z1d.out.c0; have f0 := Z1d.out.f 0
    have q1 := Z1d.out.c1; have f1 := Z1d.out.f 1
    have q2 := Z1d.out.c2; have f2 := Z1d.out.f 2
    have q3 := Z1d.out.c3; have f3 := Z1d.out.f 3
    have q4 := Z1d.out.c4; have f4 := Z1d.out.f 4
    refine wpAnyH_ready (rs := [2]) (by kernel_rfl) (by simp) (AllReadyH.cons rfl (fun K hK => ?_) AllReadyH.nil)
    go_simp
    clear q0 q1 q2 q3 q4 f0 f1 f2 f3 f4
    change K _ (setDesc w7 w.heap.size n a z u c)
    have SF := Z1d.out.five n a z u c
    have Z3 := Z2d.out.otherDesc (e := w.heap.size) (by omega) n a z u c
    have V3 := V1d.out.keepFive (e := w.heap.size) (by omega) n a z u c
    have V4 := V2d.out.otherDesc (e := w.heap.size) (by omega) n a z u c
    have BW := below_desc (B := w.heap.size) (w := w7) (b := w.heap.size) (Nat.le_refl _) n a z u c
    have BF := (HB.out.trans (HD.out.below.mono (by have := HE.out; omega))).trans BW
    generalize setDesc w7 w.heap.size n a z u c = w8 at SF Z3 V3 V4 BF BW ⊢
    refine hK.out _ _ ?_ (fun hHeld => ?_)
    · exact ⟨V3.c0, V3.c1, V3.c2, V3.c3, V3.c4, V4.c0, V4.c1, V4.c2, V4.c3, V4.c4⟩
    clear hK K
    try simp only [List.getElem_toArray, List.getElem_cons_succ, List.getElem_cons_zero, Act.put, List.setIfInBounds_toArray, List.set_cons_zero, List.set_cons_succ]
    have q0 := Z3.c0; have f0 := Z3.f 0
    have q1 := Z3.c1; have f1 := Z3.f 1
    have q2 := Z3.c2; have f2 := Z3.f 2
    have q3 := Z3.c3; have f3 := Z3.f 3
    have q4 := Z3.c4; have f4 := Z3.f 4
    refine wpAnyH_ready (rs := [3]) (by kernel_rfl) (by simp) (AllReadyH.cons rfl (fun K hK => ?_) AllReadyH.nil)
    go_simp
    clear q0 f0 q1 f1 q2 f2 q3 f3 q4 f4
    change K _ (setFive w8 (w.heap.size + 1) t m r s k)
    have SG := Z3.five t m r s k
    have SH := SF.otherFive (e := w.heap.size + 1) (by omega) t m r s k
    have V5 := V3.otherFive (e := w.heap.size + 1) (by omega) t m r s k
    have V6 := V4.keepFive (e := w.heap.size + 1) (by omega) t m r s k
    have BG := BF.trans (below_five (B := w.heap.size) (w := w8) (b := w.heap.size + 1) (Nat.le_succ _) t m r s k)
    generalize setFive w8 (w.heap.size + 1) t m r s k = w9 at SG SH V5 V6 BG ⊢
    refine hK.out _ _ ?_ (fun hHeld => ?_)
    · exact ⟨V5.c0, V5.c1, V5.c2, V5.c3, V5.c4, V6.c0, V6.c1, V6.c2, V6.c3, V6.c4⟩
    clear hK K
    try simp only [List.getElem_toArray, List.getElem_cons_succ, List.getElem_cons_zero, Act.put, List.setIfInBounds_toArray, List.set_cons_zero, List.set_cons_succ]
    refine wpAnyH_done (by kernel_rfl) ?_ _
    go_wp2_with fail
    have e0 := SH.c0
    have e1 := SH.c1
    have e2 := SH.c2
    have e3 := SH.c3
    have e4 := SH.c4
    have g0 := SG.c0
    have g1 := SG.c1
    have g2 := SG.c2
    have g3 := SG.c3
    have g4 := SG.c4
    exact bodyPost_ret (v := .tuple #[.agg #[.int .i64 n, .int .i64 a, .int .i64 z, .int .i64 u, .bool c], .agg #[.int .i64 t, .int .i64 m, .int .i64 r, .int .i64 s, .int .i64 k]]) (by simp [results, Try.results48, go_sem, e0, e1, e2, e3, e4, g0, g1, g2, g3, g4]) rfl ⟨_, _, _, _, _, _, _, _, _, _, rfl, BG⟩
set_option maxHeartbeats 4000000 in
set_option maxRecDepth 100000 in
set_option linter.unusedVariables false in
set_option linter.unusedSimpArgs false in
theorem drawFitsDescriptor_any (ai : Option Addr) (len capi : Nat) (cs : List Int) (w : World) (hr : RdB w w.heap.size ai len cs) (hn : len ≤ 1048576) :
    Calls Try.prog 46 #[.slice ai len capi] w (DrawnFit w) := by
  have hb1 : Below w.heap.size w (w.alloc (.cells #[.int .i64 0, .int .i64 0, .int .i64 0, .int .i64 0, .bool false] 49)) := (Below.refl _ _).alloc (Nat.le_refl _) _
  have e1 : (w.alloc (.cells #[.int .i64 0, .int .i64 0, .int .i64 0, .int .i64 0, .bool false] 49)).heap.size = w.heap.size + 1 := by simp
  have hb2 : Below (w.alloc (.cells #[.int .i64 0, .int .i64 0, .int .i64 0, .int .i64 0, .bool false] 49)).heap.size (w.alloc (.cells #[.int .i64 0, .int .i64 0, .int .i64 0, .int .i64 0, .bool false] 49)) ((w.alloc (.cells #[.int .i64 0, .int .i64 0, .int .i64 0, .int .i64 0, .bool false] 49)).alloc (.cells #[.int .i64 0, .int .i64 0, .int .i64 0, .int .i64 0, .int .i64 0, .int .i64 0, .int .i64 0, .slice none 0 0] 28)) := (Below.refl _ _).alloc (Nat.le_refl _) _
  have e2 : ((w.alloc (.cells #[.int .i64 0, .int .i64 0, .int .i64 0, .int .i64 0, .bool false] 49)).alloc (.cells #[.int .i64 0, .int .i64 0, .int .i64 0, .int .i64 0, .int .i64 0, .int .i64 0, .int .i64 0, .slice none 0 0] 28)).heap.size = w.heap.size + 2 := by simp
  have z1 : DescAt 49 ((w.alloc (.cells #[.int .i64 0, .int .i64 0, .int .i64 0, .int .i64 0, .bool false] 49)).alloc (.cells #[.int .i64 0, .int .i64 0, .int .i64 0, .int .i64 0, .int .i64 0, .int .i64 0, .int .i64 0, .slice none 0 0] 28)) w.heap.size 0 0 0 0 false := (DescAt.new w).below hb2 (by omega)
  have z2 := FrameAt.new (T := 28) (a := 0) (q := 0) (t := 0) (m := 0) (r := 0) (s := 0) (k := 0) (v := .slice none 0 0) (w.alloc (.cells #[.int .i64 0, .int .i64 0, .int .i64 0, .int .i64 0, .bool false] 49))
  rw [e1] at z2
  have HB := Lib.hid (below_two hb1 hb2)
  have HR := Lib.hid (rdB_grow hr (below_two hb1 hb2))
  have Z1 := Lib.hid z1; have Z2 := Lib.hid z2; have HE := Lib.hid e2
  clear hb1 hb2 z1 z2 e1 e2 hr
  go_enter Try.func46, Try.ntmps46
  go_wp2_with fail
  generalize ((w.alloc (.cells #[.int .i64 0, .int .i64 0, .int .i64 0, .int .i64 0, .bool false] 49)).alloc (.cells #[.int .i64 0, .int .i64 0, .int .i64 0, .int .i64 0, .int .i64 0, .int .i64 0, .int .i64 0, .slice none 0 0] 28)) = w0 at HB HR Z1 Z2 HE ⊢
  refine (from_any _ _ _ cs _ HR.out hn).mono ?_
  rintro e w1 ⟨p, rfl, hlo, hs1, hb1⟩
  have H : Hid (HeldS 2 133 w0 w1 p []) := HeldS.start hb1 hlo hs1
  rw [show w0.heap.size = w.heap.size + 2 from HE.out] at hlo
  replace Z1 := Lib.hid (Z1.out.below hb1 Z1.out.lt)
  replace Z2 := Lib.hid (Z2.out.below hb1 Z2.out.lt)
  clear hs1 hb1
  go_wp2_with fail
  refine (l08DrawAny_any _ _ H.out.src).mono ?_
  rintro e w2 ⟨n, a, z, u, c, rfl, hs2, g2⟩
  replace Z1 := Lib.hid (Z1.out.grown g2 (by simp; omega))
  replace Z2 := Lib.hid (Z2.out.grown g2 (by simp; omega))
  replace H := Lib.hid (H.out.next hs2 g2)
  clear hs2 g2
  have hpl := H.out.src.lt
  have bal : Below w2.heap.size w2 (w2.alloc (.cells #[.int .i64 n, .int .i64 a, .int .i64 z, .int .i64 u, .bool c] 49)) := (Below.refl _ _).alloc (Nat.le_refl _) _
  have V1 := Lib.hid (DescAt.new (T := 49) (n := n) (a := a) (z := z) (u := u) (c := c) w2)
  have hJ0 : w.heap.size + 1 < w2.heap.size := Z2.out.lt
  replace Z1 := Lib.hid (Z1.out.below bal Z1.out.lt)
  replace Z2 := Lib.hid (Z2.out.below bal Z2.out.lt)
  replace H := Lib.hid (H.out.still bal)
  clear bal
  go_upto_region 3 with fail
  obtain ⟨J, hJ⟩ : ∃ J, J = w2.heap.size := ⟨_, rfl⟩
  rw [← hJ] at V1 hpl hJ0 ⊢
  clear hJ
  generalize w2.alloc (.cells #[.int .i64 n, .int .i64 a, .int .i64 z, .int .i64 u, .bool c] 49) = w3 at V1 Z1 Z2 H ⊢
  go_wp2_with fail
  refine (l06DrawAny_any _ _ H.out.src).mono ?_
  rintro e w4 ⟨b, q, t, m, r, s, k, ao, cap, d, rfl, o4, hdl, hs4, g4⟩
  have O := Lib.hid (o4.more (base' := J + 1) (by have := V1.out.lt; omega))
  clear o4
  replace Z1 := Lib.hid (Z1.out.grown g4 (by simp; omega))
  replace Z2 := Lib.hid (Z2.out.grown g4 (by simp; omega))
  replace V1 := Lib.hid (V1.out.grown g4 (by simp; omega))
  replace H := Lib.hid (H.out.next hs4 g4)
  clear hs4 g4
  have bal : Below w4.heap.size w4 (w4.alloc (.cells #[.int .i64 b, .int .i64 q, .int .i64 t, .int .i64 m, .int .i64 r, .int .i64 s, .int .i64 k, .slice ao d.length cap] 28)) := (Below.refl _ _).alloc (Nat.le_refl _) _
  have V2 := Lib.hid (FrameAt.new (T := 28) (a := b) (q := q) (t := t) (m := m) (r := r) (s := s) (k := k) (v := .slice ao d.length cap) w4)
  have hK0 : J < w4.heap.size := V1.out.lt
  have hOK := below_size' O.out
  replace O := Lib.hid (O.out.below bal)
  replace Z1 := Lib.hid (Z1.out.below bal Z1.out.lt)
  replace Z2 := Lib.hid (Z2.out.below bal Z2.out.lt)
  replace V1 := Lib.hid (V1.out.below bal V1.out.lt)
  replace H := Lib.hid (H.out.still bal)
  clear bal
  go_upto_region 4 with fail
  obtain ⟨KB, hKB⟩ : ∃ KB, KB = w4.heap.size := ⟨_, rfl⟩
  rw [← hKB] at V2 hK0 hOK ⊢
  clear hKB
  generalize w4.alloc (.cells #[.int .i64 b, .int .i64 q, .int .i64 t, .int .i64 m, .int .i64 r, .int .i64 s, .int .i64 k, .slice ao d.length cap] 28) = w5 at V1 V2 Z1 Z2 H O ⊢
  go_wp2_with fail
  refine (next_any _ _ _ H.out.src (by omega)).mono ?_
  rintro e w6 ⟨y, rfl, y0, -, -, hs6, g6⟩
  replace O := Lib.hid (O.out.src g6 (by omega))
  have hOJ : ∀ k, (Value.slice ao d.length cap).ownBlock = some k → k ≠ J := fun k hk e => by have := (O.out.block k hk).1; omega
  replace Z1 := Lib.hid (Z1.out.grown g6 (by simp; omega))
  replace Z2 := Lib.hid (Z2.out.grown g6 (by simp; omega))
  replace V1 := Lib.hid (V1.out.grown g6 (by simp; omega))
  replace V2 := Lib.hid (V2.out.grown g6 (by simp; omega))
  replace H := Lib.hid (H.out.next hs6 g6)
  clear hs6 g6
  by_cases h0 : 0 < y
  · have t0 : decide (0 < y) = true := decide_eq_true h0
    have kk := V2.out.c0
    have cc := V1.out.c1; have ff := V1.out.f 1
    go_upto_region 6 with fail
    clear cc ff
    have bs : Below J w6 (w6.setCell ⟨J, 1, none⟩ (.int .i64 b)) := (Below.refl J w6).setCell (by exact Nat.le_refl _) _
    replace Z1 := Lib.hid (Z1.out.below bs (by omega))
    replace Z2 := Lib.hid (Z2.out.below bs (by omega))
    replace V2 := Lib.hid (V2.out.other (c := J) (i := 1) (u := .int .i64 b) (by omega))
    replace V1 := Lib.hid (V1.out.set1 b)
    replace O := Lib.hid (own_notJ' O.out hOJ (grown_setCell w6 J 1 (.int .i64 b)))
    replace H := Lib.hid (held_step H.out bs (by omega) (by have := HE.out; omega))
    clear bs
    generalize w6.setCell ⟨J, 1, none⟩ (.int .i64 b) = w6a at Z1 Z2 V1 V2 H O ⊢
    clear kk
    have kk := V2.out.c7
    have cc := V1.out.c2; have ff := V1.out.f 2
    go_upto_region 7 with fail
    clear cc ff
    have bs : Below J w6a (w6a.setCell ⟨J, 2, none⟩ (.int .i64 (d.length : Int))) := (Below.refl J w6a).setCell (by exact Nat.le_refl _) _
    replace Z1 := Lib.hid (Z1.out.below bs (by omega))
    replace Z2 := Lib.hid (Z2.out.below bs (by omega))
    replace V2 := Lib.hid (V2.out.other (c := J) (i := 2) (u := .int .i64 (d.length : Int)) (by omega))
    replace V1 := Lib.hid (V1.out.set2 (d.length : Int))
    replace O := Lib.hid (own_notJ' O.out hOJ (grown_setCell w6a J 2 (.int .i64 (d.length : Int))))
    replace H := Lib.hid (held_step H.out bs (by omega) (by have := HE.out; omega))
    clear bs
    generalize w6a.setCell ⟨J, 2, none⟩ (.int .i64 (d.length : Int)) = w6b at Z1 Z2 V1 V2 H O ⊢
    clear kk
    have k1 := V1.out.c1; have k2 := V1.out.c2
    go_wp2_with fail
    clear k1 k2
    refine (l08Cells_ex _ _ _).mono ?_
    rintro e w6c ⟨⟨y2, rfl⟩, rfl⟩
    obtain ⟨x, hx⟩ : ∃ x, IntKind.i64.wrap (y2 + 40) = x := ⟨_, rfl⟩
    have cc := V1.out.c3; have ff := V1.out.f 3
    go_upto_region 8 with fail
    clear cc ff hx
    generalize (if (if 0 < x then x else 0) < 1000 then (if 0 < x then x else 0) else (1000 : Int)) = vv
    generalize (if 0 < x then x else (0 : Int)) = vv0
    have bs : Below J w6b (w6b.setCell ⟨J, 3, none⟩ (.int .i64 vv)) := (Below.refl J w6b).setCell (by exact Nat.le_refl _) _
    replace Z1 := Lib.hid (Z1.out.below bs (by omega))
    replace Z2 := Lib.hid (Z2.out.below bs (by omega))
    replace V2 := Lib.hid (V2.out.other (c := J) (i := 3) (u := .int .i64 vv) (by omega))
    replace V1 := Lib.hid (V1.out.set3 vv)
    replace O := Lib.hid (own_notJ' O.out hOJ (grown_setCell w6b J 3 (.int .i64 vv)))
    replace H := Lib.hid (held_step H.out bs (by omega) (by have := HE.out; omega))
    clear bs
    generalize w6b.setCell ⟨J, 3, none⟩ (.int .i64 vv) = w6d at Z1 Z2 V1 V2 H O ⊢
    go_upto_region 8 with fail
    have Z1d : Hid (DescAt 49 w6d.drew w.heap.size 0 0 0 0 false) := Z1; have V1d : Hid (DescAt 49 w6d.drew J n b (d.length : Int) vv c) := V1; have Z2d : Hid (FrameAt 28 w6d.drew (w.heap.size + 1) 0 0 0 0 0 0 0 (.slice none 0 0)) := Z2; have V2d : Hid (FrameAt 28 w6d.drew KB b q t m r s k (.slice ao d.length cap)) := V2
    have HD := Lib.hid (H.out.still (Below.drew (Below.refl _ _))); have OD : Hid (Own 2 w6d.drew (J + 1) (.slice ao d.length cap) d) := Lib.hid (O.out.below (Below.drew (Below.refl _ _)))
    clear Z1 Z2 V1 V2 H O
    refine wp_region_held_drew (S := fun w' => w'.cell? ⟨J, 0, none⟩ = some (.int .i64 n) ∧ w'.cell? ⟨J, 1, none⟩ = some (.int .i64 b) ∧ w'.cell? ⟨J, 2, none⟩ = some (.int .i64 (d.length : Int)) ∧ w'.cell? ⟨J, 3, none⟩ = some (.int .i64 vv) ∧ w'.cell? ⟨J, 4, none⟩ = some (.bool c) ∧ w'.cell? ⟨KB, 0, none⟩ = some (.int .i64 b) ∧ w'.cell? ⟨KB, 1, none⟩ = some (.int .i64 q) ∧ w'.cell? ⟨KB, 2, none⟩ = some (.int .i64 t) ∧ w'.cell? ⟨KB, 3, none⟩ = some (.int .i64 m) ∧ w'.cell? ⟨KB, 4, none⟩ = some (.int .i64 r) ∧ w'.cell? ⟨KB, 5, none⟩ = some (.int .i64 s) ∧ w'.cell? ⟨KB, 6, none⟩ = some (.int .i64 k) ∧ w'.cell? ⟨KB, 7, none⟩ = some (.slice ao d.length cap)) (by kernel_rfl) (⟨V1d.out.c0, V1d.out.c1, V1d.out.c2, V1d.out.c3, V1d.out.c4, V2d.out.c0, V2d.out.c1, V2d.out.c2, V2d.out.c3, V2d.out.c4, V2d.out.c5, V2d.out.c6, V2d.out.c7⟩) (fun hHeld => ?_)
    generalize w6d.drew = w7 at Z1d Z2d V1d V2d HD OD hHeld ⊢
    refine wpAnyH_take (i := 0) (v := ?_) rfl (by kernel_rfl) (by kernel_rfl) (by kernel_rfl) (fun _ _ _ h => h) (Or.inl ⟨by rfl, ?_⟩) (by assumption) ?_
    rotate_left
    · (intro w hSw; (try dsimp only at hSw); go_simp; (try with_reducible rfl))
    try simp only [List.getElem_toArray, List.getElem_cons_succ, List.getElem_cons_zero, Act.put, List.setIfInBounds_toArray, List.set_cons_zero, List.set_cons_succ]
    refine wpAnyH_take (i := 1) (v := ?_) rfl (by kernel_rfl) (by kernel_rfl) (by kernel_rfl) (fun _ _ _ h => h) (Or.inl ⟨by rfl, ?_⟩) (by assumption) ?_
    rotate_left
    · (intro w hSw; (try dsimp only at hSw); go_simp; (try with_reducible rfl))
    try simp only [List.getElem_toArray, List.getElem_cons_succ, List.getElem_cons_zero, Act.put, List.setIfInBounds_toArray, List.set_cons_zero, List.set_cons_succ]
    have q0 := Z1d.out.c0; have f0 := Z1d.out.f 0
    have q1 := Z1d.out.c1; have f1 := Z1d.out.f 1
    have q2 := Z1d.out.c2; have f2 := Z1d.out.f 2
    have q3 := Z1d.out.c3; have f3 := Z1d.out.f 3
    have q4 := Z1d.out.c4; have f4 := Z1d.out.f 4
    refine wpAnyH_ready (rs := [2]) (by kernel_rfl) (by simp) (AllReadyH.cons rfl (fun K hK => ?_) AllReadyH.nil)
    go_simp
    clear q0 q1 q2 q3 q4 f0 f1 f2 f3 f4
    change K _ (setDesc w7 w.heap.size n b (d.length : Int) vv c)
    have SF := Z1d.out.five n b (d.length : Int) vv c
    have Z3 := Z2d.out.otherDesc (e := w.heap.size) (by omega) n b (d.length : Int) vv c
    have V3 := V1d.out.keepFive (e := w.heap.size) (by omega) n b (d.length : Int) vv c
    have V4 := V2d.out.otherDesc (e := w.heap.size) (by omega) n b (d.length : Int) vv c
    have BW := below_desc (B := w.heap.size) (w := w7) (b := w.heap.size) (Nat.le_refl _) n b (d.length : Int) vv c
    have BF := (HB.out.trans (HD.out.below.mono (by have := HE.out; omega))).trans BW
    have O3 := OD.out.awayDesc (b := w.heap.size) (by omega) n b (d.length : Int) vv c
    generalize setDesc w7 w.heap.size n b (d.length : Int) vv c = w8 at SF Z3 V3 V4 BF BW O3 ⊢
    refine hK.out _ _ ?_ (fun hHeld => ?_)
    · exact ⟨V3.c0, V3.c1, V3.c2, V3.c3, V3.c4, V4.c0, V4.c1, V4.c2, V4.c3, V4.c4, V4.c5, V4.c6, V4.c7⟩
    clear hK K
    try simp only [List.getElem_toArray, List.getElem_cons_succ, List.getElem_cons_zero, Act.put, List.setIfInBounds_toArray, List.set_cons_zero, List.set_cons_succ]
    have q0 := Z3.c0; have f0 := Z3.f 0
    have q1 := Z3.c1; have f1 := Z3.f 1
    have q2 := Z3.c2; have f2 := Z3.f 2
    have q3 := Z3.c3; have f3 := Z3.f 3
    have q4 := Z3.c4; have f4 := Z3.f 4
    have q5 := Z3.c5; have f5 := Z3.f 5
    have q6 := Z3.c6; have f6 := Z3.f 6
    have q7 := Z3.c7; have f7 := Z3.f 7
    refine wpAnyH_ready (rs := [3]) (by kernel_rfl) (by simp) (AllReadyH.cons rfl (fun K hK => ?_) AllReadyH.nil)
    go_simp
    clear q0 f0 q1 f1 q2 f2 q3 f3 q4 f4 q5 f5 q6 f6 q7 f7
    change K _ (setEight w8 (w.heap.size + 1) b q t m r s k (.slice ao d.length cap))
    have SG := Z3.eight b q t m r s k (.slice ao d.length cap)
    have SH := SF.otherEight (e := w.heap.size + 1) (by omega) b q t m r s k (.slice ao d.length cap)
    have V5 := V3.otherEight (e := w.heap.size + 1) (by omega) b q t m r s k (.slice ao d.length cap)
    have V6 := V4.keepEight (e := w.heap.size + 1) (by omega) b q t m r s k (.slice ao d.length cap)
    have BG := BF.trans (below_eight (B := w.heap.size) (w := w8) (b := w.heap.size + 1) (Nat.le_succ _) b q t m r s k (.slice ao d.length cap))
    have O4 := (O3.awayEight (b := w.heap.size + 1) (by omega) b q t m r s k (.slice ao d.length cap)).more (base' := w.heap.size) (by omega)
    generalize setEight w8 (w.heap.size + 1) b q t m r s k (.slice ao d.length cap) = w9 at SG SH V5 V6 BG O4 ⊢
    refine hK.out _ _ ?_ (fun hHeld => ?_)
    · exact ⟨V5.c0, V5.c1, V5.c2, V5.c3, V5.c4, V6.c0, V6.c1, V6.c2, V6.c3, V6.c4, V6.c5, V6.c6, V6.c7⟩
    clear hK K
    try simp only [List.getElem_toArray, List.getElem_cons_succ, List.getElem_cons_zero, Act.put, List.setIfInBounds_toArray, List.set_cons_zero, List.set_cons_succ]
    refine wpAnyH_done (by kernel_rfl) ?_ _
    go_wp2_with fail
    have e0 := SH.c0
    have e1 := SH.c1
    have e2 := SH.c2
    have e3 := SH.c3
    have e4 := SH.c4
    have g0 := SG.c0
    have g1 := SG.c1
    have g2 := SG.c2
    have g3 := SG.c3
    have g4 := SG.c4
    have g5 := SG.c5
    have g6 := SG.c6
    have g7 := SG.c7
    exact bodyPost_ret (v := .tuple #[.agg #[.int .i64 n, .int .i64 b, .int .i64 (d.length : Int), .int .i64 vv, .bool c], .agg #[.int .i64 b, .int .i64 q, .int .i64 t, .int .i64 m, .int .i64 r, .int .i64 s, .int .i64 k, .slice ao d.length cap]]) (by simp [results, Try.results46, go_sem, e0, e1, e2, e3, e4, g0, g1, g2, g3, g4, g5, g6, g7]) rfl ⟨_, _, _, _, _, _, _, _, _, _, _, _, _, _, _, rfl, O4, hdl, BG⟩
  · have t0 : decide (0 < y) = false := decide_eq_false h0
    go_upto_region 8 with fail
    have Z1d : Hid (DescAt 49 w6.drew w.heap.size 0 0 0 0 false) := Z1; have V1d : Hid (DescAt 49 w6.drew J n a z u c) := V1; have Z2d : Hid (FrameAt 28 w6.drew (w.heap.size + 1) 0 0 0 0 0 0 0 (.slice none 0 0)) := Z2; have V2d : Hid (FrameAt 28 w6.drew KB b q t m r s k (.slice ao d.length cap)) := V2
    have HD := Lib.hid (H.out.still (Below.drew (Below.refl _ _))); have OD : Hid (Own 2 w6.drew (J + 1) (.slice ao d.length cap) d) := Lib.hid (O.out.below (Below.drew (Below.refl _ _)))
    clear Z1 Z2 V1 V2 H O
    refine wp_region_held_drew (S := fun w' => w'.cell? ⟨J, 0, none⟩ = some (.int .i64 n) ∧ w'.cell? ⟨J, 1, none⟩ = some (.int .i64 a) ∧ w'.cell? ⟨J, 2, none⟩ = some (.int .i64 z) ∧ w'.cell? ⟨J, 3, none⟩ = some (.int .i64 u) ∧ w'.cell? ⟨J, 4, none⟩ = some (.bool c) ∧ w'.cell? ⟨KB, 0, none⟩ = some (.int .i64 b) ∧ w'.cell? ⟨KB, 1, none⟩ = some (.int .i64 q) ∧ w'.cell? ⟨KB, 2, none⟩ = some (.int .i64 t) ∧ w'.cell? ⟨KB, 3, none⟩ = some (.int .i64 m) ∧ w'.cell? ⟨KB, 4, none⟩ = some (.int .i64 r) ∧ w'.cell? ⟨KB, 5, none⟩ = some (.int .i64 s) ∧ w'.cell? ⟨KB, 6, none⟩ = some (.int .i64 k) ∧ w'.cell? ⟨KB, 7, none⟩ = some (.slice ao d.length cap)) (by kernel_rfl) (⟨V1d.out.c0, V1d.out.c1, V1d.out.c2, V1d.out.c3, V1d.out.c4, V2d.out.c0, V2d.out.c1, V2d.out.c2, V2d.out.c3, V2d.out.c4, V2d.out.c5, V2d.out.c6, V2d.out.c7⟩) (fun hHeld => ?_)
    generalize w6.drew = w7 at Z1d Z2d V1d V2d HD OD hHeld ⊢
    refine wpAnyH_take (i := 0) (v := ?_) rfl (by kernel_rfl) (by kernel_rfl) (by kernel_rfl) (fun _ _ _ h => h) (Or.inl ⟨by rfl, ?_⟩) (by assumption) ?_
    rotate_left
    · (intro w hSw; (try dsimp only at hSw); go_simp; (try with_reducible rfl))
    try simp only [List.getElem_toArray, List.getElem_cons_succ, List.getElem_cons_zero, Act.put, List.setIfInBounds_toArray, List.set_cons_zero, List.set_cons_succ]
    refine wpAnyH_take (i := 1) (v := ?_) rfl (by kernel_rfl) (by kernel_rfl) (by kernel_rfl) (fun _ _ _ h => h) (Or.inl ⟨by rfl, ?_⟩) (by assumption) ?_
    rotate_left
    · (intro w hSw; (try dsimp only at hSw); go_simp; (try with_reducible rfl))
    try simp only [List.getElem_toArray, List.getElem_cons_succ, List.getElem_cons_zero, Act.put, List.setIfInBounds_toArray, List.set_cons_zero, List.set_cons_succ]
    have q0 := Z1d.out.c0; have f0 := Z1d.out.f 0
    have q1 := Z1d.out.c1; have f1 := Z1d.out.f 1
    have q2 := Z1d.out.c2; have f2 := Z1d.out.f 2
    have q3 := Z1d.out.c3; have f3 := Z1d.out.f 3
    have q4 := Z1d.out.c4; have f4 := Z1d.out.f 4
    refine wpAnyH_ready (rs := [2]) (by kernel_rfl) (by simp) (AllReadyH.cons rfl (fun K hK => ?_) AllReadyH.nil)
    go_simp
    clear q0 q1 q2 q3 q4 f0 f1 f2 f3 f4
    change K _ (setDesc w7 w.heap.size n a z u c)
    have SF := Z1d.out.five n a z u c
    have Z3 := Z2d.out.otherDesc (e := w.heap.size) (by omega) n a z u c
    have V3 := V1d.out.keepFive (e := w.heap.size) (by omega) n a z u c
    have V4 := V2d.out.otherDesc (e := w.heap.size) (by omega) n a z u c
    have BW := below_desc (B := w.heap.size) (w := w7) (b := w.heap.size) (Nat.le_refl _) n a z u c
    have BF := (HB.out.trans (HD.out.below.mono (by have := HE.out; omega))).trans BW
    have O3 := OD.out.awayDesc (b := w.heap.size) (by omega) n a z u c
    generalize setDesc w7 w.heap.size n a z u c = w8 at SF Z3 V3 V4 BF BW O3 ⊢
    refine hK.out _ _ ?_ (fun hHeld => ?_)
    · exact ⟨V3.c0, V3.c1, V3.c2, V3.c3, V3.c4, V4.c0, V4.c1, V4.c2, V4.c3, V4.c4, V4.c5, V4.c6, V4.c7⟩
    clear hK K
    try simp only [List.getElem_toArray, List.getElem_cons_succ, List.getElem_cons_zero, Act.put, List.setIfInBounds_toArray, List.set_cons_zero, List.set_cons_succ]
    have q0 := Z3.c0; have f0 := Z3.f 0
    have q1 := Z3.c1; have f1 := Z3.f 1
    have q2 := Z3.c2; have f2 := Z3.f 2
    have q3 := Z3.c3; have f3 := Z3.f 3
    have q4 := Z3.c4; have f4 := Z3.f 4
    have q5 := Z3.c5; have f5 := Z3.f 5
    have q6 := Z3.c6; have f6 := Z3.f 6
    have q7 := Z3.c7; have f7 := Z3.f 7
    refine wpAnyH_ready (rs := [3]) (by kernel_rfl) (by simp) (AllReadyH.cons rfl (fun K hK => ?_) AllReadyH.nil)
    go_simp
    clear q0 f0 q1 f1 q2 f2 q3 f3 q4 f4 q5 f5 q6 f6 q7 f7
    change K _ (setEight w8 (w.heap.size + 1) b q t m r s k (.slice ao d.length cap))
    have SG := Z3.eight b q t m r s k (.slice ao d.length cap)
    have SH := SF.otherEight (e := w.heap.size + 1) (by omega) b q t m r s k (.slice ao d.length cap)
    have V5 := V3.otherEight (e := w.heap.size + 1) (by omega) b q t m r s k (.slice ao d.length cap)
    have V6 := V4.keepEight (e := w.heap.size + 1) (by omega) b q t m r s k (.slice ao d.length cap)
    have BG := BF.trans (below_eight (B := w.heap.size) (w := w8) (b := w.heap.size + 1) (Nat.le_succ _) b q t m r s k (.slice ao d.length cap))
    have O4 := (O3.awayEight (b := w.heap.size + 1) (by omega) b q t m r s k (.slice ao d.length cap)).more (base' := w.heap.size) (by omega)
    generalize setEight w8 (w.heap.size + 1) b q t m r s k (.slice ao d.length cap) = w9 at SG SH V5 V6 BG O4 ⊢
    refine hK.out _ _ ?_ (fun hHeld => ?_)
    · exact ⟨V5.c0, V5.c1, V5.c2, V5.c3, V5.c4, V6.c0, V6.c1, V6.c2, V6.c3, V6.c4, V6.c5, V6.c6, V6.c7⟩
    clear hK K
    try simp only [List.getElem_toArray, List.getElem_cons_succ, List.getElem_cons_zero, Act.put, List.setIfInBounds_toArray, List.set_cons_zero, List.set_cons_succ]
    refine wpAnyH_done (by kernel_rfl) ?_ _
    go_wp2_with fail
    have e0 := SH.c0
    have e1 := SH.c1
    have e2 := SH.c2
    have e3 := SH.c3
    have e4 := SH.c4
    have g0 := SG.c0
    have g1 := SG.c1
    have g2 := SG.c2
    have g3 := SG.c3
    have g4 := SG.c4
    have g5 := SG.c5
    have g6 := SG.c6
    have g7 := SG.c7
    exact bodyPost_ret (v := .tuple #[.agg #[.int .i64 n, .int .i64 a, .int .i64 z, .int .i64 u, .bool c], .agg #[.int .i64 b, .int .i64 q, .int .i64 t, .int .i64 m, .int .i64 r, .int .i64 s, .int .i64 k, .slice ao d.length cap]]) (by simp [results, Try.results46, go_sem, e0, e1, e2, e3, e4, g0, g1, g2, g3, g4, g5, g6, g7]) rfl ⟨_, _, _, _, _, _, _, _, _, _, _, _, _, _, _, rfl, O4, hdl, BG⟩
end
end Go.Proofs.Ytbdfnkhmnglpbaa
