/-
  Chapter 6: DrawFrameBody, DrawFrameFromBody.
-/
import Derived.Test.YtnblbemkpojjdaaGJ
import Derived.Test.YtnblbemkpojjdaaDrawC
namespace Go.Proofs.Ytnblbemkpojjdaa
open Go.RowKit

set_option maxHeartbeats 1000000 in
set_option maxRecDepth 100000 in
theorem drawFrameBody_any (ai : Option Addr) (n capi : Nat) (cs : List Int) (w : World) (hr : RdB w w.heap.size ai n cs) (hn : n ≤ 1048576) :
    Calls Try.prog 13 #[.slice ai n capi] w (DrawnFr w) := by
  have hb0 : Below w.heap.size w (w.alloc (.cells #[.int .i64 0, .int .i64 0, .int .i64 0, .int .i64 0, .int .i64 0, .int .i64 0, .int .i64 0, .slice none 0 0] 28)) := (Below.refl _ _).alloc (Nat.le_refl _) _
  have hr0 := rdB_grow hr hb0
  have z1 := FrameAt.new (T := 28) (a := 0) (q := 0) (t := 0) (m := 0) (r := 0) (s := 0) (k := 0) (v := .slice none 0 0) w
  have hsz : (w.alloc (.cells #[.int .i64 0, .int .i64 0, .int .i64 0, .int .i64 0, .int .i64 0, .int .i64 0, .int .i64 0, .slice none 0 0] 28)).heap.size = w.heap.size + 1 := by simp
  have HB := Lib.hid hb0; clear hb0
  have HR := Lib.hid hr0; clear hr0 hr
  have Z1 := Lib.hid z1; clear z1
  go_enter Try.func13, Try.ntmps13
  go_wp2_with fail
  generalize (w.alloc (.cells #[.int .i64 0, .int .i64 0, .int .i64 0, .int .i64 0, .int .i64 0, .int .i64 0, .int .i64 0, .slice none 0 0] 28)) = w0 at HB HR Z1 hsz ⊢
  refine (from_any _ _ _ cs _ HR.out hn).mono ?_
  rintro e w1 ⟨p, rfl, hlo, hs1, hb1⟩
  have H1 : Hid (HeldS 2 83 w0 w1 p []) := HeldS.start hb1 hlo hs1
  have hsw : w0.heap.size ≤ w1.heap.size := hb1.size
  clear hs1 hb1
  go_wp2_with fail
  refine (l06DrawAny_any _ _ H1.out.src).mono ?_
  rintro e w2 ⟨a, q, t, m, r, s, k, ao, cap, d, rfl, o2, hdl, hs2, g2⟩
  have H2 := Lib.hid (H1.out.next hs2 g2)
  have O2 := Lib.hid (o2.more (base' := w.heap.size + 1) (by omega))
  clear hs2 g2 H1 o2
  have Z := Z1.out.below H2.out.below Z1.out.lt
  have ZZ := Lib.hid Z
  have B2 := Lib.hid (below_two HB.out H2.out.below)
  obtain ⟨c0, c1, c2, c3, c4, c5, c6, c7⟩ := frame_cells Z
  have f0 := Z.f 0; have f1 := Z.f 1; have f2 := Z.f 2; have f3 := Z.f 3; have f4 := Z.f 4; have f5 := Z.f 5; have f6 := Z.f 6; have f7 := Z.f 7
  clear Z H2
  go_wp2_with fail
  clear c0 c1 c2 c3 c4 c5 c6 c7 f0 f1 f2 f3 f4 f5 f6 f7
  change bodyPost _ _ _ _ _ (setEight w2 w.heap.size a q t m r s k (.slice ao d.length cap))
  have SF := ZZ.out.eight a q t m r s k (.slice ao d.length cap)
  have BF := below_two' B2.out (below_eight (B := w.heap.size) (w := w2) (b := w.heap.size) (Nat.le_refl _) a q t m r s k (.slice ao d.length cap))
  have OF := (O2.out.awayEight (b := w.heap.size) (Nat.lt_succ_self _) a q t m r s k (.slice ao d.length cap)).more (base' := w.heap.size) (Nat.le_succ _)
  generalize setEight w2 w.heap.size a q t m r s k (.slice ao d.length cap) = wz at SF BF OF ⊢
  have e0 := SF.c0
  have e1 := SF.c1
  have e2 := SF.c2
  have e3 := SF.c3
  have e4 := SF.c4
  have e5 := SF.c5
  have e6 := SF.c6
  have e7 := SF.c7
  exact bodyPost_ret (v := .agg #[.int .i64 a, .int .i64 q, .int .i64 t, .int .i64 m, .int .i64 r, .int .i64 s, .int .i64 k, .slice ao d.length cap]) (by simp [results, Try.results13, go_sem, e0, e1, e2, e3, e4, e5, e6, e7]) rfl ⟨_, _, _, _, _, _, _, _, _, _, rfl, OF, hdl, BF⟩

/-- What a draw of a list of bytes leaves. -/
def DrawnXs (w : World) (e : Ending) (w' : World) : Prop :=
  ∃ ao cap, ∃ xs : List Int, e = .returned (.slice ao xs.length cap) ∧ Rd w' ao xs.length xs ∧ xs.length ≤ 9000 ∧ xs.length ≤ cap ∧ cap ≤ 9223372036854775807 ∧ Below w.heap.size w w'
theorem own_block1 {E base n : Nat} {w : World} {ao : Option Addr} {cap : Nat} {xs : List Int} (h : Own E w base (.slice ao n cap) xs) (hl : 0 < n) : ∃ g, ao = some ⟨g, 0, none⟩ := by
  obtain ⟨ao', cap', e, _, _, _, hg⟩ := h.form
  simp only [Value.slice.injEq] at e
  obtain ⟨rfl, hn, rfl⟩ := e
  rcases hg with hg | ⟨g, rfl, _, _⟩
  · simp at hg
    omega
  · exact ⟨g, rfl⟩
theorem rd_first {w : World} {g n k : Nat} {xs : List Int} (h : Rd w (some ⟨g, 0, none⟩) n xs) (hk : k ≤ n) : Rd w (some ⟨g, 0, none⟩) k (xs.take k) := h.first hk
theorem body_one {f : Fr} {xs : List Int} (h : frameBody f = (xs, 0)) : 1 ≤ xs.length ∧ xs.length ≤ 42 := by
  obtain ⟨h1, h2⟩ := body_yes h
  have := frameBytes_len f
  have := frameBytes_small h1
  rw [h2] at *
  omega
theorem body_code {f : Fr} {xs : List Int} {c : Int} (h : frameBody f = (xs, c)) : c = 0 ∨ c = 1 := by
  unfold frameBody at h
  split at h <;> simp only [Prod.mk.injEq] at h <;> omega
set_option maxHeartbeats 1000000 in
set_option maxRecDepth 100000 in
theorem drawFrameFromBody_any (ai : Option Addr) (n capi : Nat) (cs : List Int) (w : World) (hr : RdB w w.heap.size ai n cs) (hn : n ≤ 1048576) :
    Calls Try.prog 23 #[.slice ai n capi] w (DrawnXs w) := by
  have HR := Lib.hid hr; clear hr
  go_enter Try.func23, Try.ntmps23
  go_wp2_with fail
  refine (from_any _ _ _ cs _ HR.out hn).mono ?_
  rintro e w1 ⟨p, rfl, hlo, hs1, hb1⟩
  have H1 : Hid (HeldS 2 83 w w1 p []) := HeldS.start hb1 hlo hs1
  clear hlo hs1 hb1
  go_wp2_with fail
  refine (l06Draw_any _ _ H1.out.src).mono ?_
  rintro e w2 ⟨a, q, t, m, r, s, k, ao, cap, d, rfl, o2, hdl, hs2, g2⟩
  have H2 := Lib.hid (H1.out.draw o2 hs2 g2)
  clear hs2 g2 H1 o2
  obtain ⟨r0, r1, hF⟩ : ∃ r0 r1, frameBody ⟨a, q, t, m, r, s, k, d⟩ = (r0, r1) := ⟨_, _, rfl⟩
  have HF := Lib.hid hF
  go_wp2_with fail
  refine (sFrameBody_any _ _ _ _ _ _ _ _ _ _ _ (H2.out.rd 0 rfl rfl) (by omega)).mono ?_
  rintro e w3 m3
  rw [HF.out] at m3
  change Makes2 2 _ r0 r1 _ _ at m3
  obtain ⟨ao3, c3, rfl, o3, -, b3⟩ := m3.get
  have H3 := Lib.hid (H2.out.make o3 b3)
  clear m3 o3 b3 H2
  rcases body_code hF with hr1 | hr1
  rotate_left
  · subst hr1
    clear hF
    go_wp2_with fail
    refine (drawBytes_any _ _ _ H3.out.src (by omega) (by omega)).mono ?_
    rintro e w4 ⟨v4, xs4, rfl, o4, hl4, hs4, g4⟩
    have H4 := Lib.hid (H3.out.draw o4 hs4 g4)
    clear o4 hs4 g4 H3
    have O4 := H4.out.get 0 rfl
    obtain ⟨ao4, cap4, rfl, o4, r4⟩ := O4.get
    have hc4 := Own.cap o4
    clear O4
    go_wp2
    go_ret
    exact ⟨_, _, xs4, rfl, r4, hl4, hc4.1, hc4.2, H4.out.below⟩
  subst hr1
  have hlen := body_one hF
  clear hF
  go_wp2_with fail
  refine (next_any _ _ _ H3.out.src (by omega)).mono ?_
  rintro e w4 ⟨x, rfl, -, -, -, hs4, g4⟩
  have H4 := Lib.hid (H3.out.next hs4 g4)
  clear hs4 g4 H3
  by_cases hx : x = 0
  · subst hx
    go_wp2_with fail
    refine (drawBytes_any _ _ _ H4.out.src (by omega) (by omega)).mono ?_
    rintro e w5 ⟨v5, xs5, rfl, o5, hl5, hs5, g5⟩
    have H5 := Lib.hid (H4.out.draw o5 hs5 g5)
    clear o5 hs5 g5 H4
    have O5 := H5.out.get 0 rfl
    obtain ⟨ao5, cap5, rfl, o5, r5⟩ := O5.get
    have hc5 := Own.cap o5
    clear O5
    go_wp2
    go_ret
    exact ⟨_, _, xs5, rfl, r5, hl5, hc5.1, hc5.2, H5.out.below⟩
  have hx0 : (x == 0) = false := by simp [hx]
  clear hx
  go_wp2_with fail
  clear hx0
  refine (next_any _ _ _ H4.out.src (by omega)).mono ?_
  rintro e w5 ⟨y, rfl, -, -, -, hs5, g5⟩
  have H5 := Lib.hid (H4.out.next hs5 g5)
  clear hs5 g5 H4
  have hown : Own 2 w5 w.heap.size (.slice ao3 r0.length c3) r0 := H5.out.get 0 rfl
  obtain ⟨g, rfl⟩ := own_block1 hown (by omega)
  have HCP := Lib.hid (Own.cap hown)
  clear hown
  by_cases h0 : y = 0
  · subst h0
    go_wp2_with fail
    refine (next_any _ _ _ H5.out.src (by omega)).mono ?_
    rintro e w6 ⟨i, rfl, i0, i1, i2, hs6, g6⟩
    have H6 := Lib.hid (H5.out.next hs6 g6)
    clear hs6 g6 H5
    obtain ⟨i, rfl⟩ := Int.eq_ofNat_of_zero_le i0
    have hi : i < r0.length := by
      by_cases h1 : (1 : Int) < (r0.length : Int)
      · have := i1 h1; omega
      · have := i2 (by omega); omega
    clear i0 i1 i2
    go_wp2_with fail
    refine (next_any _ _ _ H6.out.src (by omega)).mono ?_
    rintro e w7 ⟨z, rfl, -, -, -, hs7, g7⟩
    have H7 := Lib.hid (H6.out.next hs7 g7)
    clear hs7 g7 H6
    obtain ⟨hdst, hfz, ho2, hb2⟩ := own_store (H7.out.get 0 rfl) rfl (k := i) hi z
    have H8 := Lib.hid ho2
    have B8 := Lib.hid (H7.out.below.trans hb2)
    have hi' : (i : Int) < (r0.length : Int) := by omega
    clear ho2 hb2
    go_wp2
    go_ret
    obtain ⟨ao9, c9, e9, o9, r9⟩ := H8.out.get
    rw [List.length_set] at e9
    cases e9
    exact ⟨some ⟨g, 0, none⟩, c3, r0.set i z, by rw [List.length_set]; rfl, r9, by rw [List.length_set]; omega, by rw [List.length_set]; exact HCP.out.1, HCP.out.2, B8.out⟩
  have t0 : (y == 0) = false := by simp [h0]
  by_cases h1 : y = 1
  · subst h1
    clear t0 h0
    go_wp2_with fail
    refine (next_any _ _ _ H5.out.src (by omega)).mono ?_
    rintro e w6 ⟨i, rfl, i0, i1, i2, hs6, g6⟩
    have H6 := Lib.hid (H5.out.next hs6 g6)
    clear hs6 g6 H5
    obtain ⟨i, rfl⟩ := Int.eq_ofNat_of_zero_le i0
    have hi : i < r0.length := by
      by_cases h1 : (1 : Int) < (r0.length : Int)
      · have := i1 h1; omega
      · have := i2 (by omega); omega
    clear i0 i1 i2
    have hc3 := HCP.out
    have hi' : (i : Int) ≤ (c3 : Int) := by omega
    go_wp2
    go_ret
    have hrd := rd_first (H6.out.rd 0 rfl rfl) (k := i) (by omega)
    have hlt : (r0.take i).length = i := by rw [List.length_take]; omega
    exact ⟨some ⟨g, 0, none⟩, c3, r0.take i, by rw [hlt]; rfl, by rw [hlt]; exact hrd, by rw [hlt]; omega, by rw [hlt]; omega, hc3.2, H6.out.below⟩
  have t1 : (y == 1) = false := by simp [h1]
  by_cases h2 : y = 2
  · subst h2
    clear t0 t1 h0 h1
    have hbs := H5.out.below.size
    go_wp2_with (at_builtin; refine append_one _ rfl (.tmp 45) (.tmp 46) rfl w.heap.size Try.underlying26 info64 _ r0 rfl ((H5.out.get 0 rfl).below ((Below.refl _ _).alloc (Nat.le_refl _) _)) _ _ _ rfl (new_cell rfl) (by omega) (by simp; omega) ?_; intro v' w' ho2 hb2)
    obtain ⟨ao6, c6, rfl, o6, r6⟩ := ho2.get
    have hc6 := Own.cap o6
    have hl6 : (r0 ++ [(0 : Int)]).length ≤ 9000 := by rw [List.length_append, List.length_singleton]; omega
    go_wp2
    go_ret
    exact ⟨_, _, _, rfl, r6, hl6, hc6.1, hc6.2, (H5.out.below.alloc hbs _).trans hb2⟩
  have t2 : (y == 2) = false := by simp [h2]
  clear h0 h1 h2
  go_wp2
  go_ret
  exact ⟨some ⟨g, 0, none⟩, c3, r0, rfl, H5.out.rd 0 rfl rfl, by omega, HCP.out.1, HCP.out.2, H5.out.below⟩
end Go.Proofs.Ytnblbemkpojjdaa
