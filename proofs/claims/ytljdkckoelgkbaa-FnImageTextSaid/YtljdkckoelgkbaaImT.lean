/-
  Chapter 14: ImageText and ReadImageText, on both sides.
-/
import Derived.Test.YtljdkckoelgkbaaImH
import Derived.Deep.RegionHeld3
namespace Go.Proofs.Ytljdkckoelgkbaa
open Go.RowKit

theorem it_no {xs : List Int} (h : isBytes xs = false) : imageText xs = [] := by simp [imageText, h]
theorem it_yes {xs : List Int} (h : isBytes xs = true) : imageText xs = hexes xs := by simp [imageText, h]
theorem hexes_snoc {xs : List Int} {k : Nat} (hk : k < xs.length) : hexes (xs.take (k + 1)) = hexes (xs.take k) ++ [hexOf (xs.getD k 0 / 16), hexOf (xs.getD k 0 % 16)] := by
  rw [take_succ' xs k hk, hexes_app]; rfl
set_option linter.unusedSimpArgs false in
set_option maxHeartbeats 2000000 in
theorem imageText_any (ao : Option Addr) (cap : Nat) (xs : List Int) (w : World) (hr : Rd w ao xs.length xs) (hn : xs.length ≤ 1048576) :
    Calls Try.prog 9 #[.slice ao xs.length cap] w fun e w' => e = .returned (.string (strOfNums (imageText xs))) ∧ Below w.heap.size w w' := by
  by_cases hb : isBytes xs = true
  · have hbits := (isBytes_iff.1 hb).2
    have hl := (isBytes_iff.1 hb).1
    have HZ := Lib.hid hbits; clear hbits
    rw [it_yes hb]
    have HB := Lib.hid hb; clear hb
    obtain ⟨n, hn0⟩ : ∃ n, n = xs.length := ⟨_, rfl⟩
    rw [← hn0] at hr hn hl ⊢
    have HN := Lib.hid hn0; clear hn0
    have hix := hex_at
    go_enter Try.func9, Try.ntmps9
    go_wp2_with (first
      | (go_at_call 24; refine (isBytes_any _ _ _ _ _ hr (by omega)).mono ?_; rintro e w' ⟨rfl, rfl⟩; rw [HB.out])
      | (at_make; refine make_bytes_cap _ rfl _ _ rfl w.heap.size Try.underlying22 infoU8 _ _ _ _ 0 (2 * n) rfl rfl rfl (by omega) (Nat.zero_le _) (by omega) (Nat.le_refl _) ?_; intro w1 o1 b1))
    have HO1 := Lib.hid (show OwnK .u8 5 w1 w.heap.size (.slice (some ⟨w.heap.size, 0, none⟩) 0 (2 * n)) (hexes (xs.take 0)) from o1)
    have HB1 := Lib.hid b1
    clear o1 b1
    go_loopw [3, 5, 15] (fun s _u i wr => ∃ (k : Nat) (v : Value), k ≤ n ∧ v = s ∧ i = .int .i64 k ∧ OwnK .u8 5 wr w.heap.size v (hexes (xs.take k)) ∧ Below w.heap.size w wr) (fun _ _ i _ => n - (intOf i).toNat)
    case atStart => exact ⟨0, _, Nat.zero_le _, rfl, rfl, HO1.out, HB1.out⟩
    case round =>
      clear HO1 HB1
      obtain ⟨k, v, hk, rfl, rfl, hown, hbel⟩ := hrel
      by_cases hlt : k < n
      · obtain ⟨b, off, rfl, hc⟩ := (hr.below hbel).here (by omega)
        have hck := hc k hlt
        clear hc
        have hkx : k < xs.length := by rw [← HN.out]; exact hlt
        have hbd := HZ.out _ (getD_mem' hkx)
        have hls : (hexes (xs.take k)).length ≤ 4294967296 := by rw [hexes_len, List.length_take]; omega
        have hbs := hbel.size
        have hsn := hexes_snoc hkx
        obtain ⟨x, hx⟩ : ∃ x, x = xs.getD k 0 := ⟨_, rfl⟩
        rw [← hx] at hck hbd hsn
        obtain ⟨q, r, hxe, hq, hrr, hx1, hx2⟩ := byte_halves hbd
        have hi1 := fun W => hix q hq W
        have hi2 := fun W => hix r hrr W
        have ht1 : Int.tdiv x 16 = (q : Int) := by rw [Int.tdiv_eq_ediv_of_nonneg hbd.1]; exact hx1
        have ht2 : Int.tmod x 16 = (r : Int) := by rw [Int.tmod_eq_emod_of_nonneg hbd.1]; exact hx2
        rw [hx1, hx2] at hsn
        have hwq : IntKind.i64.wrap (q : Int) = (q : Int) := by rw [IntKind.wrap_i64]; omega
        have hwr : IntKind.i64.wrap (r : Int) = (r : Int) := by rw [IntKind.wrap_i64]; omega
        obtain ⟨hx0, hx3⟩ := hbd
        have HSN := Lib.hid hsn; clear hsn hx hkx hxe
        have HO := Lib.hid hown; clear hown
        have HBE := Lib.hid hbel; clear hbel
        clear hix
        generalize hexOf (q : Int) = c1 at hi1 HSN
        generalize hexOf (r : Int) = c2 at hi2 HSN
        go_wp2_with fail
        have HO2 := Lib.hid (show OwnK .u8 5 wr.drew w.heap.size v (hexes (xs.take k)) from HO.out.below (Below.drew (Below.refl _ _)))
        have HBE2 := Lib.hid (show Below w.heap.size w wr.drew from HBE.out.drew)
        have hbs2 := HBE2.out.size
        refine wp_region_held_drew (S := fun w' => True) (by kernel_rfl) (trivial) (fun hHeld => ?_)
        generalize wr.drew = wd at HO2 HBE2 hbs2 hHeld ⊢
        refine wpAnyH_take (i := 0) (v := ?_) rfl (by kernel_rfl) (by kernel_rfl) (by kernel_rfl) (fun _ _ _ h => h) (Or.inl ⟨by rfl, ?_⟩) (by assumption) ?_
        rotate_left
        · (intro w hSw; (try dsimp only at hSw); go_simp; (try with_reducible rfl))
        try simp only [List.getElem_toArray, List.getElem_cons_succ, List.getElem_cons_zero, Act.put, List.setIfInBounds_toArray, List.set_cons_zero, List.set_cons_succ]
        refine wpAnyH_take (i := 1) (v := ?_) rfl (by kernel_rfl) (by kernel_rfl) (by kernel_rfl) (fun _ _ _ h => h) (Or.inl ⟨by rfl, ?_⟩) (by assumption) ?_
        rotate_left
        · (intro w hSw; (try dsimp only at hSw); go_simp; (try with_reducible rfl))
        try simp only [List.getElem_toArray, List.getElem_cons_succ, List.getElem_cons_zero, Act.put, List.setIfInBounds_toArray, List.set_cons_zero, List.set_cons_succ]
        refine wpAnyH_take (i := 2) (v := ?_) rfl (by kernel_rfl) (by kernel_rfl) (by kernel_rfl) (fun _ _ _ h => h) (Or.inl ⟨by rfl, ?_⟩) (by assumption) ?_
        rotate_left
        · (intro w hSw; (try dsimp only at hSw); go_simp; (try with_reducible rfl))
        try simp only [List.getElem_toArray, List.getElem_cons_succ, List.getElem_cons_zero, Act.put, List.setIfInBounds_toArray, List.set_cons_zero, List.set_cons_succ]
        refine wpAnyH_take (i := 3) (v := ?_) rfl (by kernel_rfl) (by kernel_rfl) (by kernel_rfl) (fun _ _ _ h => h) (Or.inl ⟨by rfl, ?_⟩) (by assumption) ?_
        rotate_left
        · (intro w hSw; (try dsimp only at hSw); go_simp; (try with_reducible rfl))
        try simp only [List.getElem_toArray, List.getElem_cons_succ, List.getElem_cons_zero, Act.put, List.setIfInBounds_toArray, List.set_cons_zero, List.set_cons_succ]
        refine wpAnyH_take (i := 4) (v := ?_) rfl (by kernel_rfl) (by kernel_rfl) (by kernel_rfl) (fun _ _ _ h => h) (Or.inl ⟨by rfl, ?_⟩) (by assumption) ?_
        rotate_left
        · (intro w hSw; (try dsimp only at hSw); go_simp; (try with_reducible rfl))
        try simp only [List.getElem_toArray, List.getElem_cons_succ, List.getElem_cons_zero, Act.put, List.setIfInBounds_toArray, List.set_cons_zero, List.set_cons_succ]
        refine wpAnyH_take (i := 5) (v := ?_) rfl (by kernel_rfl) (by kernel_rfl) (by kernel_rfl) (fun _ _ _ h => h) (Or.inl ⟨by rfl, ?_⟩) (by assumption) ?_
        rotate_left
        · (intro w hSw; (try dsimp only at hSw); go_simp; (try with_reducible rfl))
        try simp only [List.getElem_toArray, List.getElem_cons_succ, List.getElem_cons_zero, Act.put, List.setIfInBounds_toArray, List.set_cons_zero, List.set_cons_succ]
        refine wpAnyH_take (i := 6) (v := ?_) rfl (by kernel_rfl) (by kernel_rfl) (by kernel_rfl) (fun _ _ _ h => h) (Or.inl ⟨by rfl, ?_⟩) (by assumption) ?_
        rotate_left
        · (intro w hSw; (try dsimp only at hSw); go_simp; (try with_reducible rfl))
        try simp only [List.getElem_toArray, List.getElem_cons_succ, List.getElem_cons_zero, Act.put, List.setIfInBounds_toArray, List.set_cons_zero, List.set_cons_succ]
        refine wpAnyH_ready (rs := [7]) (by kernel_rfl) (by simp) (AllReadyH.cons rfl (fun K hK => ?_) AllReadyH.nil)
        go_simp
        have hc0 : (wd.alloc (.cells #[.int .u8 c1, .int .u8 c2] 5)).cell? ⟨wd.heap.size, 0, none⟩ = some (.int .u8 c1) := by rw [World.cell?_alloc_at _ _ _ _ rfl]; rfl
        have hc1 : (wd.alloc (.cells #[.int .u8 c1, .int .u8 c2] 5)).cell? ⟨wd.heap.size, 1, none⟩ = some (.int .u8 c2) := by rw [World.cell?_alloc_at _ _ _ _ rfl]; rfl
        have HO3 := Lib.hid (HO2.out.below ((Below.refl wd.heap.size wd).alloc (Nat.le_refl _) (.cells #[.int .u8 c1, .int .u8 c2] 5)))
        have HBE3 := Lib.hid (HBE2.out.alloc hbs2 (.cells #[.int .u8 c1, .int .u8 c2] 5))
        have hbs3 := HBE3.out.size
        generalize wd.alloc (.cells #[.int .u8 c1, .int .u8 c2] 5) = we at hc0 hc1 HO3 HBE3 hbs3 ⊢
        refine hK.out _ _ ?_ (fun hHeld => ?_)
        · exact trivial
        clear hK K
        try simp only [List.getElem_toArray, List.getElem_cons_succ, List.getElem_cons_zero, Act.put, List.setIfInBounds_toArray, List.set_cons_zero, List.set_cons_succ]
        refine wpAnyH_ready (rs := [8]) (by kernel_rfl) (by simp) (AllReadyH.cons rfl (fun K hK => ?_) AllReadyH.nil)
        refine app_byte2 _ (.tmp 19) (.tmp 26) rfl w.heap.size Try.underlying22 infoU8 _ _ rfl HO3.out _ c1 c2 _ rfl hc0 hc1 hls hbs3 ?_
        intro v' w' hown hbel
        have hbel0 := hbel
        have h := hown
        rw [← HSN.out] at h
        have HO' := Lib.hid h; clear h hown
        have HB' := Lib.hid (HBE3.out.trans hbel); clear hbel
        refine hK.out _ _ ?_ (fun hHeld => ?_)
        · exact trivial
        clear hK K
        try simp only [List.getElem_toArray, List.getElem_cons_succ, List.getElem_cons_zero, Act.put, List.setIfInBounds_toArray, List.set_cons_zero, List.set_cons_succ]
        refine wpAnyH_take (i := 9) (v := ?_) rfl (by kernel_rfl) (by kernel_rfl) (by kernel_rfl) (fun _ _ _ h => h) (Or.inl ⟨by rfl, ?_⟩) (by assumption) ?_
        rotate_left
        · (intro w hSw; (try dsimp only at hSw); go_simp; (try with_reducible rfl))
        try simp only [List.getElem_toArray, List.getElem_cons_succ, List.getElem_cons_zero, Act.put, List.setIfInBounds_toArray, List.set_cons_zero, List.set_cons_succ]
        refine wpAnyH_done (by kernel_rfl) ?_ _
        go_wp2_with fail
        go_roundw
        case rel => exact ⟨k + 1, _, by omega, rfl, by go_num, HO'.out, HB'.out⟩
        case measure => simp [intOf]; omega
      · have hkn : k = n := by omega
        subst hkn
        have h := hown
        rw [show xs.take k = xs from List.take_of_length_le (by rw [← HN.out]; exact Nat.le_refl _)] at h
        have hcv := h.string Try.underlying22 Try.underlying5 9 Try.underlying9
        clear hown h
        go_wp2
        go_ret
        exact ⟨rfl, hbel⟩
  · have hb' : isBytes xs = false := by simpa using hb
    rw [it_no hb']
    have HB := Lib.hid hb'; clear hb hb'
    go_enter Try.func9, Try.ntmps9
    go_wp2_with (go_at_call 24; refine (isBytes_any _ _ _ _ _ hr (by omega)).mono ?_; rintro e w' ⟨rfl, rfl⟩; rw [HB.out])
    go_ret
    exact ⟨rfl, Below.refl _ _⟩
set_option linter.unusedSimpArgs false in
set_option maxHeartbeats 2000000 in
theorem sImageText_any (ao : Option Addr) (cap : Nat) (xs : List Int) (w : World) (hr : Rd w ao xs.length xs) (hn : xs.length ≤ 1048576) :
    Calls Try.prog 13 #[.slice ao xs.length cap] w fun e w' => e = .returned (.string (strOfNums (imageText xs))) ∧ Below w.heap.size w w' := by
  by_cases hb : isBytes xs = true
  · have hbits := (isBytes_iff.1 hb).2
    have hl := (isBytes_iff.1 hb).1
    have HZ := Lib.hid hbits; clear hbits
    rw [it_yes hb]
    have HB := Lib.hid hb; clear hb
    obtain ⟨n, hn0⟩ : ∃ n, n = xs.length := ⟨_, rfl⟩
    rw [← hn0] at hr hn hl ⊢
    have HN := Lib.hid hn0; clear hn0
    have hix := hex_at
    go_enter Try.func13, Try.ntmps13
    go_wp2_with (go_at_call 14; refine (sIsBytes_any _ _ _ _ _ hr (by omega)).mono ?_; rintro e w' ⟨rfl, rfl⟩; rw [HB.out])
    have HO1 := Lib.hid (show OwnK .u8 5 (w.alloc (.cells #[] 5)) w.heap.size (.slice (some ⟨w.heap.size, 0, none⟩) 0 0) (hexes (xs.take 0)) from OwnK.of_alloc_nil (Nat.le_refl _))
    have HB1 := Lib.hid (show Below w.heap.size w (w.alloc (.cells #[] 5)) from (Below.refl _ _).alloc (Nat.le_refl _) _)
    go_loopw [3, 4] (fun s i wr => ∃ (k : Nat) (v : Value), k ≤ n ∧ v = s ∧ i = .int .i64 k ∧ OwnK .u8 5 wr w.heap.size v (hexes (xs.take k)) ∧ Below w.heap.size w wr) (fun _ i _ => n - (intOf i).toNat)
    case atStart => exact ⟨0, _, Nat.zero_le _, rfl, rfl, HO1.out, HB1.out⟩
    case round =>
      clear HO1 HB1
      obtain ⟨k, v, hk, rfl, rfl, hown, hbel⟩ := hrel
      by_cases hlt : k < n
      · obtain ⟨b, off, rfl, hc⟩ := (hr.below hbel).here (by omega)
        have hck := hc k hlt
        clear hc
        have hbw : b < w.heap.size := by
          obtain ⟨b', off', e, hc'⟩ := hr.here (by omega)
          cases e
          exact World.block_lt_of_cell? _ _ (hc' k hlt)
        have hkx : k < xs.length := by rw [← HN.out]; exact hlt
        have hbd := HZ.out _ (getD_mem' hkx)
        have hls : (hexes (xs.take k)).length ≤ 4294967296 := by rw [hexes_len, List.length_take]; omega
        have hbs := hbel.size
        have hsn := hexes_snoc hkx
        obtain ⟨x, hx⟩ : ∃ x, x = xs.getD k 0 := ⟨_, rfl⟩
        rw [← hx] at hck hbd hsn
        obtain ⟨q, r, hxe, hq, hrr, hx1, hx2⟩ := byte_halves hbd
        have hi1 := fun W => hix q hq W
        have hi2 := fun W => hix r hrr W
        have ht1 : Int.tdiv x 16 = (q : Int) := by rw [Int.tdiv_eq_ediv_of_nonneg hbd.1]; exact hx1
        have ht2 : Int.tmod x 16 = (r : Int) := by rw [Int.tmod_eq_emod_of_nonneg hbd.1]; exact hx2
        rw [hx1, hx2] at hsn
        have hwq : IntKind.i64.wrap (q : Int) = (q : Int) := by rw [IntKind.wrap_i64]; omega
        have hwr : IntKind.i64.wrap (r : Int) = (r : Int) := by rw [IntKind.wrap_i64]; omega
        obtain ⟨hx0, hx3⟩ := hbd
        have HSN := Lib.hid hsn; clear hsn hx hkx hxe
        have HO := Lib.hid hown; clear hown
        have HBE := Lib.hid hbel; clear hbel
        clear hix
        generalize hexOf (q : Int) = c1 at hi1 HSN
        generalize hexOf (r : Int) = c2 at hi2 HSN
        go_wp2_with fail
        have hckd : wr.drew.cell? ⟨b, off + k, none⟩ = some (.int .i64 x) := hck
        have HO2 := Lib.hid (show OwnK .u8 5 wr.drew w.heap.size v (hexes (xs.take k)) from HO.out.below (Below.drew (Below.refl _ _)))
        have HBE2 := Lib.hid (show Below w.heap.size w wr.drew from HBE.out.drew)
        have hbs2 := HBE2.out.size
        refine wp_region_held_drew (S := fun w' => w'.cell? ⟨b, off + k, none⟩ = some (.int .i64 x)) (by kernel_rfl) (hckd) (fun hHeld => ?_)
        generalize wr.drew = wd at hckd HO2 HBE2 hbs2 hHeld ⊢
        refine wpAnyH_take (i := 0) (v := ?_) rfl (by kernel_rfl) (by kernel_rfl) (by kernel_rfl) (fun _ _ _ h => h) (Or.inl ⟨by rfl, ?_⟩) (by assumption) ?_
        rotate_left
        · (intro w hSw; (try dsimp only at hSw); go_simp; (try with_reducible rfl))
        try simp only [List.getElem_toArray, List.getElem_cons_succ, List.getElem_cons_zero, Act.put, List.setIfInBounds_toArray, List.set_cons_zero, List.set_cons_succ]
        refine wpAnyH_take (i := 1) (v := ?_) rfl (by kernel_rfl) (by kernel_rfl) (by kernel_rfl) (fun _ _ _ h => h) (Or.inl ⟨by rfl, ?_⟩) (by assumption) ?_
        rotate_left
        · (intro w hSw; (try dsimp only at hSw); go_simp; (try with_reducible rfl))
        try simp only [List.getElem_toArray, List.getElem_cons_succ, List.getElem_cons_zero, Act.put, List.setIfInBounds_toArray, List.set_cons_zero, List.set_cons_succ]
        refine wpAnyH_take (i := 2) (v := ?_) rfl (by kernel_rfl) (by kernel_rfl) (by kernel_rfl) (fun _ _ _ h => h) (Or.inl ⟨by rfl, ?_⟩) (by assumption) ?_
        rotate_left
        · (intro w hSw; (try dsimp only at hSw); go_simp; (try with_reducible rfl))
        try simp only [List.getElem_toArray, List.getElem_cons_succ, List.getElem_cons_zero, Act.put, List.setIfInBounds_toArray, List.set_cons_zero, List.set_cons_succ]
        refine wpAnyH_take (i := 3) (v := ?_) rfl (by kernel_rfl) (by kernel_rfl) (by kernel_rfl) (fun _ _ _ h => h) (Or.inl ⟨by rfl, ?_⟩) (by assumption) ?_
        rotate_left
        · (intro w hSw; (try dsimp only at hSw); go_simp; (try with_reducible rfl))
        try simp only [List.getElem_toArray, List.getElem_cons_succ, List.getElem_cons_zero, Act.put, List.setIfInBounds_toArray, List.set_cons_zero, List.set_cons_succ]
        refine wpAnyH_take (i := 4) (v := ?_) rfl (by kernel_rfl) (by kernel_rfl) (by kernel_rfl) (fun _ _ _ h => h) (Or.inl ⟨by rfl, ?_⟩) (by assumption) ?_
        rotate_left
        · (intro w hSw; (try dsimp only at hSw); go_simp; (try with_reducible rfl))
        try simp only [List.getElem_toArray, List.getElem_cons_succ, List.getElem_cons_zero, Act.put, List.setIfInBounds_toArray, List.set_cons_zero, List.set_cons_succ]
        refine wpAnyH_take (i := 5) (v := ?_) rfl (by kernel_rfl) (by kernel_rfl) (by kernel_rfl) (fun _ _ _ h => h) (Or.inl ⟨by rfl, ?_⟩) (by assumption) ?_
        rotate_left
        · (intro w hSw; (try dsimp only at hSw); go_simp; (try with_reducible rfl))
        try simp only [List.getElem_toArray, List.getElem_cons_succ, List.getElem_cons_zero, Act.put, List.setIfInBounds_toArray, List.set_cons_zero, List.set_cons_succ]
        refine wpAnyH_take (i := 6) (v := ?_) rfl (by kernel_rfl) (by kernel_rfl) (by kernel_rfl) (fun _ _ _ h => h) (Or.inl ⟨by rfl, ?_⟩) (by assumption) ?_
        rotate_left
        · (intro w hSw; (try dsimp only at hSw); go_simp; (try with_reducible rfl))
        try simp only [List.getElem_toArray, List.getElem_cons_succ, List.getElem_cons_zero, Act.put, List.setIfInBounds_toArray, List.set_cons_zero, List.set_cons_succ]
        refine wpAnyH_take (i := 7) (v := ?_) rfl (by kernel_rfl) (by kernel_rfl) (by kernel_rfl) (fun _ _ _ h => h) (Or.inl ⟨by rfl, ?_⟩) (by assumption) ?_
        rotate_left
        · (intro w hSw; (try dsimp only at hSw); go_simp; (try with_reducible rfl))
        try simp only [List.getElem_toArray, List.getElem_cons_succ, List.getElem_cons_zero, Act.put, List.setIfInBounds_toArray, List.set_cons_zero, List.set_cons_succ]
        refine wpAnyH_take (i := 8) (v := ?_) rfl (by kernel_rfl) (by kernel_rfl) (by kernel_rfl) (fun _ _ _ h => h) (Or.inl ⟨by rfl, ?_⟩) (by assumption) ?_
        rotate_left
        · (intro w hSw; (try dsimp only at hSw); go_simp; (try with_reducible rfl))
        try simp only [List.getElem_toArray, List.getElem_cons_succ, List.getElem_cons_zero, Act.put, List.setIfInBounds_toArray, List.set_cons_zero, List.set_cons_succ]
        refine wpAnyH_take (i := 9) (v := ?_) rfl (by kernel_rfl) (by kernel_rfl) (by kernel_rfl) (fun _ _ _ h => h) (Or.inl ⟨by rfl, ?_⟩) (by assumption) ?_
        rotate_left
        · (intro w hSw; (try dsimp only at hSw); go_simp; (try with_reducible rfl))
        try simp only [List.getElem_toArray, List.getElem_cons_succ, List.getElem_cons_zero, Act.put, List.setIfInBounds_toArray, List.set_cons_zero, List.set_cons_succ]
        refine wpAnyH_take (i := 10) (v := ?_) rfl (by kernel_rfl) (by kernel_rfl) (by kernel_rfl) (fun _ _ _ h => h) (Or.inl ⟨by rfl, ?_⟩) (by assumption) ?_
        rotate_left
        · (intro w hSw; (try dsimp only at hSw); go_simp; (try with_reducible rfl))
        try simp only [List.getElem_toArray, List.getElem_cons_succ, List.getElem_cons_zero, Act.put, List.setIfInBounds_toArray, List.set_cons_zero, List.set_cons_succ]
        refine wpAnyH_take (i := 11) (v := ?_) rfl (by kernel_rfl) (by kernel_rfl) (by kernel_rfl) (fun _ _ _ h => h) (Or.inl ⟨by rfl, ?_⟩) (by assumption) ?_
        rotate_left
        · (intro w hSw; (try dsimp only at hSw); go_simp; (try with_reducible rfl))
        try simp only [List.getElem_toArray, List.getElem_cons_succ, List.getElem_cons_zero, Act.put, List.setIfInBounds_toArray, List.set_cons_zero, List.set_cons_succ]
        refine wpAnyH_take (i := 12) (v := ?_) rfl (by kernel_rfl) (by kernel_rfl) (by kernel_rfl) (fun _ _ _ h => h) (Or.inl ⟨by rfl, ?_⟩) (by assumption) ?_
        rotate_left
        · (intro w hSw; (try dsimp only at hSw); go_simp; (try with_reducible rfl))
        try simp only [List.getElem_toArray, List.getElem_cons_succ, List.getElem_cons_zero, Act.put, List.setIfInBounds_toArray, List.set_cons_zero, List.set_cons_succ]
        refine wpAnyH_ready (rs := [13]) (by kernel_rfl) (by simp) (AllReadyH.cons rfl (fun K hK => ?_) AllReadyH.nil)
        go_simp
        have hc0 : (wd.alloc (.cells #[.int .u8 c1, .int .u8 c2] 5)).cell? ⟨wd.heap.size, 0, none⟩ = some (.int .u8 c1) := by rw [World.cell?_alloc_at _ _ _ _ rfl]; rfl
        have hc1 : (wd.alloc (.cells #[.int .u8 c1, .int .u8 c2] 5)).cell? ⟨wd.heap.size, 1, none⟩ = some (.int .u8 c2) := by rw [World.cell?_alloc_at _ _ _ _ rfl]; rfl
        have HO3 := Lib.hid (HO2.out.below ((Below.refl wd.heap.size wd).alloc (Nat.le_refl _) (.cells #[.int .u8 c1, .int .u8 c2] 5)))
        have hcke := ((Below.refl wd.heap.size wd).alloc (Nat.le_refl _) (.cells #[.int .u8 c1, .int .u8 c2] 5)).cell (p := ⟨b, off + k, none⟩) (World.block_lt_of_cell? _ _ hckd)
        rw [hckd] at hcke
        have HBE3 := Lib.hid (HBE2.out.alloc hbs2 (.cells #[.int .u8 c1, .int .u8 c2] 5))
        have hbs3 := HBE3.out.size
        generalize wd.alloc (.cells #[.int .u8 c1, .int .u8 c2] 5) = we at hcke hc0 hc1 HO3 HBE3 hbs3 ⊢
        refine hK.out _ _ ?_ (fun hHeld => ?_)
        · exact hcke
        clear hK K
        try simp only [List.getElem_toArray, List.getElem_cons_succ, List.getElem_cons_zero, Act.put, List.setIfInBounds_toArray, List.set_cons_zero, List.set_cons_succ]
        refine wpAnyH_ready (rs := [14]) (by kernel_rfl) (by simp) (AllReadyH.cons rfl (fun K hK => ?_) AllReadyH.nil)
        refine app_byte2 _ (.tmp 15) (.tmp 28) rfl w.heap.size Try.underlying22 infoU8 _ _ rfl HO3.out _ c1 c2 _ rfl hc0 hc1 hls hbs3 ?_
        intro v' w' hown hbel
        have hbel0 := hbel
        have h := hown
        rw [← HSN.out] at h
        have HO' := Lib.hid h; clear h hown
        have HB' := Lib.hid (HBE3.out.trans hbel); clear hbel
        refine hK.out _ _ ?_ (fun hHeld => ?_)
        · exact (hbel0.cell (p := ⟨b, off + k, none⟩) hbw).trans hcke
        clear hK K
        try simp only [List.getElem_toArray, List.getElem_cons_succ, List.getElem_cons_zero, Act.put, List.setIfInBounds_toArray, List.set_cons_zero, List.set_cons_succ]
        refine wpAnyH_take (i := 15) (v := ?_) rfl (by kernel_rfl) (by kernel_rfl) (by kernel_rfl) (fun _ _ _ h => h) (Or.inl ⟨by rfl, ?_⟩) (by assumption) ?_
        rotate_left
        · (intro w hSw; (try dsimp only at hSw); go_simp; (try with_reducible rfl))
        try simp only [List.getElem_toArray, List.getElem_cons_succ, List.getElem_cons_zero, Act.put, List.setIfInBounds_toArray, List.set_cons_zero, List.set_cons_succ]
        refine wpAnyH_done (by kernel_rfl) ?_ _
        go_wp2_with fail
        go_roundw
        case rel => exact ⟨k + 1, _, by omega, rfl, by go_num, HO'.out, HB'.out⟩
        case measure => simp [intOf]; omega
      · have hkn : k = n := by omega
        subst hkn
        have h := hown
        rw [show xs.take k = xs from List.take_of_length_le (by rw [← HN.out]; exact Nat.le_refl _)] at h
        have hcv := h.string Try.underlying22 Try.underlying5 9 Try.underlying9
        clear hown h
        go_wp2
        go_ret
        exact ⟨rfl, hbel⟩
  · have hb' : isBytes xs = false := by simpa using hb
    rw [it_no hb']
    have HB := Lib.hid hb'; clear hb hb'
    go_enter Try.func13, Try.ntmps13
    go_wp2_with (go_at_call 14; refine (sIsBytes_any _ _ _ _ _ hr (by omega)).mono ?_; rintro e w' ⟨rfl, rfl⟩; rw [HB.out])
    go_ret
    exact ⟨rfl, Below.refl _ _⟩
end Go.Proofs.Ytljdkckoelgkbaa
