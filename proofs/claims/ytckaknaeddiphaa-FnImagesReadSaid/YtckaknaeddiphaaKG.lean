/-
  Chapter 9: the draws.
-/
import Derived.Test.YtckaknaeddiphaaK7
import Derived.Test.YtckaknaeddiphaaLawC
namespace Go.Proofs.Ytckaknaeddiphaa
open Go.RowKit

theorem rd_six {T : Nat} (a b c d e f : Int) (w : World) : Rd (w.alloc (.cells #[.int .i64 a, .int .i64 b, .int .i64 c, .int .i64 d, .int .i64 e, .int .i64 f] T)) (some ⟨w.heap.size, 0, none⟩) 6 [a, b, c, d, e, f] := by
  refine ⟨rfl, fun _ => ⟨w.heap.size, 0, rfl, fun i hi => ?_⟩⟩
  rw [World.cell?_alloc_at _ _ _ _ (by simp)]
  match i, hi with
  | 0, _ => rfl
  | 1, _ => rfl
  | 2, _ => rfl
  | 3, _ => rfl
  | 4, _ => rfl
  | 5, _ => rfl
theorem own_five9 {E base : Nat} {w : World} (a b c d e : Int) (hE : base ≤ w.heap.size) : Own E (w.alloc (.cells #[.int .i64 a, .int .i64 b, .int .i64 c, .int .i64 d, .int .i64 e] E)) base (.slice (some ⟨w.heap.size, 0, none⟩) 5 5) [a, b, c, d, e] :=
  ⟨by simp, .inr ⟨w.heap.size, 5, #[.int .i64 a, .int .i64 b, .int .i64 c, .int .i64 d, .int .i64 e], by simp, hE, heap_alloc_new w _, by simp, by unfold maxLen; omega, by simp, by simp⟩⟩
/-- What a draw of a list leaves that is only read. -/
def DrawnR (w : World) (e : Ending) (w' : World) : Prop := ∃ ao n cap xs, e = .returned (.slice ao n cap) ∧ Rd w' ao n xs ∧ n ≤ cap ∧ cap ≤ 9223372036854775807 ∧ n ≤ 9000 ∧ Below w.heap.size w w'
/-- The same by a source. -/
def DrawnRS (T : Nat) (w : World) (p : Nat) (e : Ending) (w' : World) : Prop := ∃ ao n cap xs, e = .returned (.slice ao n cap) ∧ Rd w' ao n xs ∧ n ≤ cap ∧ cap ≤ 9223372036854775807 ∧ n ≤ 9000 ∧ Src T w' p ∧ w.grownBy w' (some p)
theorem drawBlockOfByte_any (ao : Option Addr) (n cap : Nat) (cs : List Int) (w : World) (hr : RdB w w.heap.size ao n cs) (hn : n ≤ 1048576) :
    Calls Try.prog 21 #[.slice ao n cap] w fun e w' => ∃ x y : Int, e = .returned (.tuple #[.int .i64 x, .int .i64 y]) ∧ 0 ≤ x ∧ x < 200 ∧ Below w.heap.size w w' := by
  have HR := Lib.hid hr; clear hr
  go_enter Try.func21, Try.ntmps21
  go_wp2_with fail
  refine (from_any _ _ _ cs _ HR.out hn).mono ?_
  rintro e w1 ⟨p, rfl, hlo, hs1, hb1⟩
  have H : HeldS 2 64 w w1 p [] := HeldS.start hb1 hlo hs1
  clear hlo hs1 hb1
  go_wp2_with fail
  refine (next_any _ _ _ H.src (by omega)).mono ?_
  rintro e w2 ⟨x, rfl, hx0, hx1, -, hs2, g2⟩
  replace H := H.next hs2 g2
  have hx2 := hx1 (by omega)
  clear hs2 g2 hx1
  go_wp2_with fail
  refine (next_any _ _ _ H.src (by omega)).mono ?_
  rintro e w3 ⟨y, rfl, hy0, -, -, hs3, g3⟩
  replace H := H.next hs3 g3
  clear hs3 g3
  go_wp2_with fail
  refine (next_any _ _ _ H.src (by omega)).mono ?_
  rintro e w4 ⟨z, rfl, hz0, hz1, -, hs4, g4⟩
  replace H := H.next hs4 g4
  clear hs4 g4
  go_wp2
  go_ret2
  exact ⟨_, _, rfl, hx0, hx2, H.below⟩
theorem drawImageOf_any (ao : Option Addr) (n cap : Nat) (cs : List Int) (w : World) (hr : RdB w w.heap.size ao n cs) (hn : n ≤ 1048576) :
    Calls Try.prog 10 #[.slice ao n cap] w (DrawnR w) := by
  have HR := Lib.hid hr; clear hr
  go_enter Try.func10, Try.ntmps10
  go_wp2_with fail
  refine (from_any _ _ _ cs _ HR.out hn).mono ?_
  rintro e w1 ⟨p, rfl, hlo, hs1, hb1⟩
  have H : HeldS 2 64 w w1 p [] := HeldS.start hb1 hlo hs1
  clear hlo hs1 hb1
  go_wp2_with fail
  refine (next_any _ _ _ H.src (by omega)).mono ?_
  rintro e w2 ⟨x, rfl, hx0, -, -, hs2, g2⟩
  replace H := H.next hs2 g2
  clear hs2 g2
  by_cases h0 : x = 0
  · subst h0
    go_wp2_with fail
    refine (next_any _ _ _ H.src (by omega)).mono ?_
    rintro e w3 ⟨y, rfl, hy0, hy1, -, hs3, g3⟩
    replace H := H.next hs3 g3
    have hy2 := hy1 (by omega)
    clear hs3 g3 hy1
    obtain ⟨y, rfl⟩ := Int.eq_ofNat_of_zero_le hy0
    have hbs := H.below.size
    go_wp2_with (at_make; refine make_cap _ rfl (.tmp 11) (.tmp 11) rfl w.heap.size Try.underlying24 info64 .i64 .i64 _ _ (867 + y) (867 + y) rfl rfl (by omega) (by omega) (Nat.le_refl _) (by omega) hbs ?_; intro w4 o4 b4)
    go_ret
    obtain ⟨zs, hzs⟩ : ∃ zs, List.replicate (867 + y) (0 : Int) = zs := ⟨_, rfl⟩
    have hzl : zs.length = 867 + y := by rw [← hzs, List.length_replicate]
    rw [hzs, ← hzl] at o4
    obtain ⟨a5, c5, e5, o5, r5⟩ := o4.get
    simp only [Value.slice.injEq] at e5
    obtain ⟨e5, -, e6⟩ := e5
    rw [hzl] at r5 e6
    rw [← e5] at r5
    exact ⟨_, _, _, _, rfl, r5, by omega, by omega, by omega, H.below.trans b4⟩
  · have hx : (x == 0) = false := by simp [h0]
    go_wp2_with fail
    refine (drawBytes_any _ _ _ H.src (by omega) (by omega)).mono ?_
    rintro e w3 ⟨v, xs, rfl, o3, hxl, hs3, g3⟩
    replace H := H.draw o3 hs3 g3
    obtain ⟨a5, c5, rfl, o5, r5⟩ := (H.get 0 rfl).get
    have R5 := Lib.hid r5; have O5 := Lib.hid o5.cap
    clear o3 hs3 g3 r5 o5
    go_wp2
    go_ret
    exact ⟨_, _, _, _, rfl, R5.out, O5.out.1, O5.out.2, hxl, H.below⟩
set_option linter.unusedSimpArgs false in
set_option maxHeartbeats 4000000 in
set_option maxRecDepth 100000 in
theorem l09DrawImage_any (p : Nat) (w : World) (hs : Src 64 w p) :
    Calls Try.prog 44 #[.pointer (some ⟨p, 0, none⟩)] w (DrawnRS 64 w p) := by
  have hp := hs.lt
  go_enter Try.func44, Try.ntmps44
  go_wp2_with fail
  refine (drawBytes_any _ _ _ hs (by omega) (by omega)).mono ?_
  rintro e w1 ⟨v, xs, rfl, o1, hxl, hs1, g1⟩
  obtain ⟨a1, c1, rfl, o1, r1⟩ := o1.get
  have hc1 := o1.cap
  go_wp2_with fail
  refine (sImageOf_any a1 c1 xs _ r1 (by omega) hc1.1 hc1.2).mono ?_
  rintro e w2 m2
  have hs2 := m2.choose_spec.2.2
  obtain ⟨img, code, hio⟩ : ∃ img code, imageOf xs = (img, code) := ⟨_, _, rfl⟩
  rw [hio] at m2
  obtain ⟨a2, c2, rfl, o2, r2, b2⟩ := Makes2.get (show Makes2 2 w1 img code e w2 from m2)
  have S2 := Lib.hid (hs1.below b2)
  have G2 := Lib.hid (grown_step g1 b2 g1.size)
  clear hs2 m2 r1 o1 hs1 hc1 hs
  by_cases hcode : code = 0
  · subst hcode
    obtain ⟨hbx, hx8, hie⟩ := imageOf_yes hio
    have hil := image_len xs
    rw [← hie] at hil
    have h31 := blocks_31 hx8
    have hb1 := blocks_pos xs.length
    have hpw1 : p < w1.heap.size := Nat.lt_of_lt_of_le hp g1.size
    have O2 := Lib.hid o2; have R2 := Lib.hid r2; have C2 := Lib.hid o2.cap
    have HI := Lib.hid (show 5 ≤ img.length ∧ img.length ≤ 1100 by omega)
    have P1 := Lib.hid hpw1
    have W1 := Lib.hid (show w.heap.size ≤ w1.heap.size from g1.size)
    clear hio hbx hie hil h31 hb1 hx8 o2 r2 b2 g1 hpw1
    go_wp2_with fail
    refine (next_any _ _ _ S2.out (by omega)).mono ?_
    rintro e w3 ⟨y, rfl, hy0, hy1, -, hs3, g3⟩
    have hy2 := hy1 (by omega)
    obtain ⟨y, rfl⟩ := Int.eq_ofNat_of_zero_le hy0
    have S3 := Lib.hid hs3
    have G3 := Lib.hid (grown_trans G2.out g3)
    have O3 := Lib.hid (O2.out.src g3 P1.out)
    have hlen := HI.out
    clear hs3 g3 hy0 hy1
    obtain ⟨l, hl⟩ : ∃ l, img.length = l := ⟨_, rfl⟩
    have HL := Lib.hid hl
    have o3f := O3.out.form
    obtain ⟨a9, c9, e9, r3, -⟩ := o3f
    cases e9
    have R3 := Lib.hid r3
    clear r3 hl
    rcases (by omega : y = 0 ∨ y = 1 ∨ y = 2 ∨ y = 3 ∨ y = 4 ∨ 5 ≤ y) with rfl | rfl | rfl | rfl | rfl | hy
    · obtain ⟨g, rfl⟩ : ∃ g, a2 = some ⟨g, 0, none⟩ := by
        obtain ⟨a8, c8, e8, -, -, -, h8⟩ := O3.out.form
        cases e8
        rcases h8 with h8 | ⟨g, rfl, -⟩
        · simp only [Value.slice.injEq] at h8; have := HI.out; omega
        · exact ⟨g, rfl⟩
      go_wp2_with fail
      refine (next_any _ _ _ S3.out (by omega)).mono ?_
      rintro e w4 ⟨z, rfl, hz0, hz1, -, hs4, g4⟩
      have hz2 := hz1 (by omega)
      obtain ⟨z, rfl⟩ := Int.eq_ofNat_of_zero_le hz0
      have S4 := Lib.hid hs4
      have G4 := Lib.hid (grown_trans G3.out g4)
      have O4 := Lib.hid (O3.out.src g4 P1.out)
      clear hs4 g4 hz0 hz1
      go_wp2_with fail
      refine (next_any _ _ _ S4.out (by omega)).mono ?_
      rintro e w5 ⟨q, rfl, -, -, -, hs5, g5⟩
      have S5 := Lib.hid hs5
      have G5 := Lib.hid (grown_trans G4.out g5)
      have O5 := Lib.hid (O4.out.src g5 P1.out)
      clear hs5 g5
      have hzl : z < img.length := by omega
      obtain ⟨d1, d2, o6, b6⟩ := own_store O5.out rfl hzl q
      rw [HL.out] at hz2
      have O6 := Lib.hid o6
      have B6 := Lib.hid b6
      clear o6 b6
      go_wp2
      go_ret
      have o7 := O6.out
      obtain ⟨ys, hys⟩ : ∃ ys, img.set z q = ys := ⟨_, rfl⟩
      have hyl : ys.length = img.length := by rw [← hys, List.length_set]
      rw [hys, ← hyl] at o7
      obtain ⟨a7, c7, e7, r7, -⟩ := o7.form
      cases e7
      rw [hyl] at r7
      exact ⟨_, _, _, _, rfl, r7, C2.out.1, C2.out.2, by omega, S5.out.belowB B6.out P1.out, grown_step G5.out B6.out W1.out⟩
    · go_wp2_with fail
      refine (next_any _ _ _ S3.out (by omega)).mono ?_
      rintro e w4 ⟨z, rfl, hz0, hz1, -, hs4, g4⟩
      have hz2 := hz1 (by omega)
      obtain ⟨z, rfl⟩ := Int.eq_ofNat_of_zero_le hz0
      have S4 := Lib.hid hs4
      have G4 := Lib.hid (grown_trans G3.out g4)
      obtain ⟨a8, c8, e8, r8, -⟩ := (O3.out.src g4 P1.out).form
      cases e8
      have R4 := Lib.hid (r8.head9 (a := z) (by omega))
      have f1 : (z : Int) ≤ (c2 : Int) := by have := C2.out.1; omega
      have f2 : z ≤ c2 := by have := C2.out.1; omega
      clear hs4 g4 hz0 hz1 r8
      go_wp2
      go_ret
      exact ⟨_, _, _, _, rfl, R4.out, f2, C2.out.2, by omega, S4.out, G4.out⟩
    · by_cases h33 : 33 < img.length
      · obtain ⟨m, hm⟩ : ∃ m, img.length = m + 34 := ⟨img.length - 34, by omega⟩
        obtain ⟨c, rfl⟩ : ∃ c, c2 = c + 34 := ⟨c2 - 34, by have := C2.out.1; omega⟩
        have R4 := Lib.hid (R3.out.tail9 (a := 33) (m := m + 1) (by omega))
        have hc9 := C2.out
        rw [hm] at hc9 ⊢
        have C9 := Lib.hid hc9
        have f1 : (33 : Int) < (m : Int) + 34 := by omega
        have f2 : (33 : Int) ≤ (m : Int) + 34 := by omega
        have hm9 : m ≤ 2000 := by omega
        clear hc9
        go_wp2
        go_ret
        exact ⟨_, _, _, _, rfl, R4.out, by have := C9.out.1; omega, by have := C9.out.2; omega, by omega, S3.out, G3.out⟩
      · have f1 : ¬ (33 : Int) < (img.length : Int) := by omega
        go_wp2
        go_ret
        exact ⟨_, _, _, _, rfl, R3.out, C2.out.1, C2.out.2, by omega, S3.out, G3.out⟩
    · have D4 := ((Below.refl w3.heap.size w3).alloc (Nat.le_refl _) (.cells #[.int .i64 0, .int .i64 128] 2))
      have D5 := D4.alloc (by simp) (.cells #[.int .i64 0, .int .i64 0, .int .i64 0] 2)
      have OA := Lib.hid ((Own.of_alloc_two (E := 2) (w := w3) 0 128 (Nat.le_refl _)).below ((Below.refl _ _).alloc (Nat.le_refl _) (.cells #[.int .i64 0, .int .i64 0, .int .i64 0] 2)))
      have DD := Lib.hid D5
      have h3 := rd_three (T := 2) 0 0 0 (w3.alloc (.cells #[.int .i64 0, .int .i64 128] 2))
      rw [World.size_alloc] at h3
      have R3b := Lib.hid h3
      clear D4 D5 h3
      go_wp2_with (at_builtin; refine append_list _ rfl (.tmp 48) (.tmp 49) rfl w3.heap.size Try.underlying24 info64 _ [0, 128] rfl OA.out _ _ _ [0, 0, 0] rfl R3b.out (by decide) DD.out.size ?_; intro v4 w4 o4 b4; have B4 := Lib.hid (DD.out.trans b4); obtain ⟨p4, c4, rfl, o4, r4⟩ := o4.get; have R4 := Lib.hid r4; have f2 : (2 : Int) ≤ (c4 : Int) := (by have h := o4.cap.1; change 5 ≤ c4 at h; omega); clear o4 r4 b4)
      refine (l09Check_any 0 p4 c4 [0, 128] _ (by omega) (R4.out.head9 (a := 2) (by decide)) (by decide)).mono ?_
      rintro e w5 ⟨rfl, b5⟩
      have hin := checkOf_in ((0 : Nat) : Int) [0, 128]
      have S5 := Lib.hid ((S3.out.below B4.out).below b5)
      have G5 := Lib.hid (grown_step G3.out (below_two B4.out b5) G3.out.size)
      have R5 := Lib.hid ((R3.out.below B4.out).below b5)
      clear b5 f2
      generalize checkOf ((0 : Nat) : Int) [0, 128] = x at hin ⊢
      have q1 : IntKind.i64.wrap (x.tdiv 65536) = x / 65536 := by rw [Int.tdiv_eq_ediv_of_nonneg hin.1, IntKind.wrap_i64]; omega
      have q2 : IntKind.i64.wrap (x.tdiv 256) = x / 256 := by rw [Int.tdiv_eq_ediv_of_nonneg hin.1, IntKind.wrap_i64]; omega
      have q3 : (x / 256).tmod 256 = x / 256 % 256 := by rw [Int.tmod_eq_emod_of_nonneg (by omega)]
      have q4 : x.tmod 256 = x % 256 := by rw [Int.tmod_eq_emod_of_nonneg hin.1]
      obtain ⟨y0, f0⟩ : ∃ y, x / 65536 = y := ⟨_, rfl⟩
      obtain ⟨y1, f1⟩ : ∃ y, x / 256 = y := ⟨_, rfl⟩
      obtain ⟨y2, f2⟩ : ∃ y, y1 % 256 = y := ⟨_, rfl⟩
      obtain ⟨y3, f3⟩ : ∃ y, x % 256 = y := ⟨_, rfl⟩
      rw [f0] at q1; rw [f1] at q2 q3; rw [f2] at q3; rw [f3] at q4
      clear hin f0 f1 f2 f3
      obtain ⟨m, hm⟩ : ∃ m, img.length = m + 5 := ⟨img.length - 5, by omega⟩
      obtain ⟨c, rfl⟩ : ∃ c, c2 = c + 5 := ⟨c2 - 5, by have := C2.out.1; omega⟩
      have D6 := Below.alloc (Below.refl w5.heap.size w5) (Nat.le_refl _) (.cells #[.int .i64 0, .int .i64 128, .int .i64 y0, .int .i64 y2, .int .i64 y3] 2)
      have D6' := Lib.hid D6
      have OF := Lib.hid (own_five9 (E := 2) (w := w5) 0 128 y0 y2 y3 (Nat.le_refl _))
      have hm9 : m ≤ 2000 := by omega
      have f5 : (5 : Int) ≤ (m : Int) + 5 := by omega
      by_cases hc : c = 0
      · subst hc
        have hm0 : m = 0 := by have := C2.out.1; omega
        subst hm0
        rw [hm]
        clear D6
        obtain ⟨L, hL⟩ : ∃ L, [0, 128, y0, y2, y3] ++ ([] : List Int) = L := ⟨_, rfl⟩
        have HLN := Lib.hid (show L.length = 5 from by rw [← hL]; rfl)
        have HLL := Lib.hid hL
        clear hL
        go_wp2_with (at_builtin; refine append_list _ rfl (.tmp 61) (.tmp 63) rfl w5.heap.size Try.underlying24 info64 _ [0, 128, y0, y2, y3] rfl OF.out _ _ _ [] rfl Rd.any0 (by simp only [List.length_cons, List.length_nil]; omega) D6'.out.size ?_; intro v7 w7 o7 b7; rw [HLL.out] at o7; have B7 := Lib.hid (D6'.out.trans b7); obtain ⟨p7, c7, rfl, o7, r7⟩ := o7.get; have R7 := Lib.hid r7; have C7 := Lib.hid o7.cap; clear o7 r7 b7)
        go_ret
        exact ⟨_, _, _, _, rfl, R7.out, C7.out.1, C7.out.2, by have := HLN.out; omega, S5.out.below B7.out, grown_step G5.out B7.out G5.out.size⟩
      · have RT := Lib.hid ((R5.out.tail9 (a := 5) (m := m) (by omega)).below D6)
        obtain ⟨c, rfl⟩ : ∃ c', c = c' + 1 := ⟨c - 1, by omega⟩
        have hpl : (img.drop 5).length = m := by rw [List.length_drop]; omega
        obtain ⟨ps, hps⟩ : ∃ ps, img.drop 5 = ps := ⟨_, rfl⟩
        rw [hps] at RT hpl
        rw [hm]
        obtain ⟨L, hL⟩ : ∃ L, [0, 128, y0, y2, y3] ++ ps = L := ⟨_, rfl⟩
        have HLN := Lib.hid (show L.length = 5 + m from by rw [← hL, List.length_append, hpl]; rfl)
        have HLL := Lib.hid hL
        clear D6 hps hL
        go_wp2_with (at_builtin; refine append_list _ rfl (.tmp 61) (.tmp 63) rfl w5.heap.size Try.underlying24 info64 _ [0, 128, y0, y2, y3] rfl OF.out _ _ _ ps rfl RT.out (by simp only [List.length_cons, List.length_nil]; omega) D6'.out.size ?_; intro v7 w7 o7 b7; rw [HLL.out] at o7; have B7 := Lib.hid (D6'.out.trans b7); obtain ⟨p7, c7, rfl, o7, r7⟩ := o7.get; have R7 := Lib.hid r7; have C7 := Lib.hid o7.cap; clear o7 r7 b7)
        go_ret
        exact ⟨_, _, _, _, rfl, R7.out, C7.out.1, C7.out.2, by have := HLN.out; omega, S5.out.below B7.out, grown_step G5.out B7.out G5.out.size⟩
    · go_wp2_with fail
      have D4 := Below.alloc (Below.refl w3.heap.size w3) (Nat.le_refl _) (.cells #[.int .i64 0, .int .i64 1, .int .i64 7] 2)
      refine (l09Check_any 0 _ 3 [0, 1, 7] _ (by omega) (rd_three _ _ _ _) (by decide)).mono ?_
      rintro e w5 ⟨rfl, b5⟩
      have hin := checkOf_in ((0 : Nat) : Int) [0, 1, 7]
      have S5 := Lib.hid ((S3.out.below D4).below b5)
      have G5 := Lib.hid (grown_step G3.out (below_two D4 b5) G3.out.size)
      clear D4 b5
      generalize checkOf ((0 : Nat) : Int) [0, 1, 7] = x at hin ⊢
      have q1 : IntKind.i64.wrap (x.tdiv 65536) = x / 65536 := by rw [Int.tdiv_eq_ediv_of_nonneg hin.1, IntKind.wrap_i64]; omega
      have q2 : IntKind.i64.wrap (x.tdiv 256) = x / 256 := by rw [Int.tdiv_eq_ediv_of_nonneg hin.1, IntKind.wrap_i64]; omega
      have q3 : (x / 256).tmod 256 = x / 256 % 256 := by rw [Int.tmod_eq_emod_of_nonneg (by omega)]
      have q4 : x.tmod 256 = x % 256 := by rw [Int.tmod_eq_emod_of_nonneg hin.1]
      obtain ⟨y0, f0⟩ : ∃ y, x / 65536 = y := ⟨_, rfl⟩
      obtain ⟨y1, f1⟩ : ∃ y, x / 256 = y := ⟨_, rfl⟩
      obtain ⟨y2, f2⟩ : ∃ y, y1 % 256 = y := ⟨_, rfl⟩
      obtain ⟨y3, f3⟩ : ∃ y, x % 256 = y := ⟨_, rfl⟩
      rw [f0] at q1; rw [f1] at q2 q3; rw [f2] at q3; rw [f3] at q4
      clear hin f0 f1 f2 f3
      go_wp2
      go_ret
      have D6 := Below.alloc (Below.refl w5.heap.size w5) (Nat.le_refl _) (.cells #[.int .i64 0, .int .i64 1, .int .i64 7, .int .i64 y0, .int .i64 y2, .int .i64 y3] 2)
      exact ⟨_, _, _, [0, 1, 7, y0, y2, y3], rfl, rd_six _ _ _ _ _ _ _, Nat.le_refl _, by omega, by omega, S5.out.below D6, grown_step G5.out D6 G5.out.size⟩
    · have e0 : ((y : Int) == 0) = false := by simp; omega
      have e1 : ((y : Int) == 1) = false := by simp; omega
      have e2 : ((y : Int) == 2) = false := by simp; omega
      have e3 : ((y : Int) == 3) = false := by simp; omega
      have e4 : ((y : Int) == 4) = false := by simp; omega
      go_wp2
      go_ret
      exact ⟨_, _, _, _, rfl, R3.out, C2.out.1, C2.out.2, by omega, S3.out, G3.out⟩
  · have hne : (code != 0) = true := by simp [hcode]
    clear hio o2 r2 b2 hcode
    go_wp2_with fail
    refine (drawBytes_any _ _ _ S2.out (by omega) (by omega)).mono ?_
    rintro e w3 ⟨v, ys, rfl, o3, hyl, hs3, g3⟩
    obtain ⟨a5, c5, rfl, o5, r5⟩ := o3.get
    have R5 := Lib.hid r5; have O5 := Lib.hid o5.cap
    have S3 := Lib.hid hs3
    have G3 := Lib.hid (grown_trans G2.out g3)
    clear o3 hs3 g3 r5 o5
    go_wp2
    go_ret
    exact ⟨_, _, _, _, rfl, R5.out, O5.out.1, O5.out.2, hyl, S3.out, G3.out⟩
theorem drawDataOfImage_any (ao : Option Addr) (n cap : Nat) (cs : List Int) (w : World) (hr : RdB w w.heap.size ao n cs) (hn : n ≤ 1048576) :
    Calls Try.prog 17 #[.slice ao n cap] w (DrawnR w) := by
  have HR := Lib.hid hr; clear hr
  go_enter Try.func17, Try.ntmps17
  go_wp2_with fail
  refine (from_any _ _ _ cs _ HR.out hn).mono ?_
  rintro e w1 ⟨p, rfl, hlo, hs1, hb1⟩
  go_wp2_with fail
  refine (l09DrawImage_any _ _ hs1).mono ?_
  rintro e w2 ⟨a2, n2, c2, xs, rfl, r2, h1, h2, h3, hs2, g2⟩
  have R2 := Lib.hid r2
  have H2 := Lib.hid (And.intro h1 (And.intro h2 h3))
  have B2 := Lib.hid (hb1.grown g2 hb1.size (fun k hk => by cases hk; exact hlo))
  clear r2 h1 h2 h3 hs1 hs2 hb1 g2
  go_wp2
  go_ret
  exact ⟨_, _, _, _, rfl, R2.out, H2.out.1, H2.out.2.1, H2.out.2.2, B2.out⟩
end Go.Proofs.Ytckaknaeddiphaa
