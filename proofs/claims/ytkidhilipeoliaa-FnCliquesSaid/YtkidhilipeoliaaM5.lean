/-
  Chapter 5: CliqueOf, of the program and of its model.
-/
import Derived.Test.YtkidhilipeoliaaM4
import Derived.Deep.Draws
namespace Go.Proofs.Ytkidhilipeoliaa
open Go.RowKit

theorem cl_no1 {xs : List Int} {k : Int} (h : areVecs xs = false) : cliqueOf xs k = ([], 2) := by unfold cliqueOf; rw [if_neg (by rw [h]; simp)]
theorem cl_no2 {xs : List Int} {k : Int} (h : k < 0) : cliqueOf xs k = ([], 2) := by
  unfold cliqueOf; rw [if_neg (by rw [decide_eq_false (by omega : ¬ 0 ≤ k)]; simp)]
theorem cl_no3 {xs : List Int} {k : Int} (h : (xs.length : Int) ≤ k) : cliqueOf xs k = ([], 2) := by
  unfold cliqueOf; rw [if_neg (by rw [decide_eq_false (by omega : ¬ k < (xs.length : Int))]; simp)]
theorem cl_yes {xs : List Int} {k : Nat} (h : areVecs xs = true) (hk : k < xs.length) : cliqueOf xs k = (placesTo xs (xs.getD k 0) xs.length, 0) := by
  unfold cliqueOf; rw [if_pos (by rw [h, decide_eq_true (by omega : (0 : Int) ≤ (k : Int)), decide_eq_true (by omega : (k : Int) < (xs.length : Int))]; rfl), Int.toNat_natCast]
theorem areVecs_len {xs : List Int} (h : areVecs xs = true) : xs.length ≤ 32 := by
  simp only [areVecs, within, Bool.and_eq_true, decide_eq_true_eq] at h; omega
theorem areVecs_all {xs : List Int} (h : xs.length ≤ 32) : areVecs xs = allIn 4294967295 xs := by
  unfold areVecs within; rw [decide_eq_true (by omega)]; rfl
theorem areVecs_long {xs : List Int} (h : ¬ xs.length ≤ 32) : areVecs xs = false := within_long (by omega)

/-- impl.CliqueOf. -/
theorem cliqueOf_any (ao : Option Addr) (n cap : Nat) (xs : List Int) (k : Int) (w : World) (hr : Rd w ao n xs) (hn : n ≤ 1048576) :
    Calls Try.prog 32 #[.slice ao n cap, .int .i64 k] w (Makes2 2 w (cliqueOf xs k).1 (cliqueOf xs k).2) := by
  have HR := Lib.hid hr
  obtain ⟨hlen, hat⟩ := hr
  cases hv : areVecs xs with
  | false =>
    rw [cl_no1 hv]
    have HV := Lib.hid hv; clear hv hlen hat
    go_enter Try.func32, Try.ntmps32
    go_wp2_with fail
    refine (areVectors_any _ _ _ _ _ HR.out (by omega)).mono ?_
    rintro e w' ⟨rfl, rfl⟩
    rw [HV.out]
    go_wp2
    go_ret2
    exact ⟨_, rfl, Own.nil_, Below.refl _ _⟩
  | true =>
    by_cases h0 : k < 0
    · rw [cl_no2 h0]
      have HV := Lib.hid hv; clear hv hlen hat
      go_enter Try.func32, Try.ntmps32
      go_wp2_with fail
      refine (areVectors_any _ _ _ _ _ HR.out (by omega)).mono ?_
      rintro e w' ⟨rfl, rfl⟩
      rw [HV.out]
      go_wp2
      go_ret2
      exact ⟨_, rfl, Own.nil_, Below.refl _ _⟩
    · obtain ⟨k, rfl⟩ := Int.eq_ofNat_of_zero_le (by omega : 0 ≤ k)
      by_cases h1 : k < n
      · have hn32 := areVecs_len hv
        rw [cl_yes hv (by omega)]
        have HV := Lib.hid hv; clear hv h0
        obtain ⟨b, off, rfl, hc⟩ := hat (by omega)
        have hck := hc k h1
        have hblt : b < w.heap.size := World.block_lt_of_cell? w _ hck
        obtain ⟨v, hvv⟩ : ∃ v, v = xs.getD k 0 := ⟨_, rfl⟩
        rw [← hvv] at hck ⊢
        have HVV := Lib.hid hvv; clear hvv
        have HC := Lib.hid hc; clear hc hat
        have HL := Lib.hid hlen; clear hlen
        have hk1 : (k : Int) < (n : Int) := by omega
        have hk2 : decide ((k : Int) < 0) = false := decide_eq_false (by omega)
        have hk5 : ¬ n ≤ k := by omega
        have hn32 : n ≤ 32 := by rw [← HL.out]; exact hn32
        go_enter Try.func32, Try.ntmps32
        go_wp2_with fail
        refine (areVectors_any _ _ _ _ _ HR.out (by omega)).mono ?_
        rintro e w' ⟨rfl, rfl⟩
        rw [HV.out]
        go_wp2
        go_loopw [6, 24] (fun s i wr => ∃ j : Nat, j ≤ n ∧ i = .int .i64 j ∧ Own 2 wr w.heap.size s (placesTo xs v j) ∧ Below w.heap.size w wr) (fun _ i _ => n - (intOf i).toNat)
        case atStart => exact ⟨0, by omega, rfl, Own.nil_, Below.refl _ _⟩
        case round =>
          obtain ⟨j, hj, rfl, hown, hbel⟩ := hrel
          have HB := Lib.hid hbel
          have hsz := hbel.size
          have hckr := (hbel.cell (p := ⟨b, off + k, none⟩) hblt).trans hck
          have HO := Lib.hid hown; clear hown
          by_cases hlt : j < n
          · have hlen := placesTo_len xs v j
            have hl2 : (placesTo xs v j).length ≤ 4294967296 := by omega
            clear hlen
            have hcj := (hbel.cell (p := ⟨b, off + j, none⟩) hblt).trans (HC.out j hlt)
            clear hbel hck
            have hs := placesTo_succ xs v j
            obtain ⟨x, hx⟩ : ∃ x, x = xs.getD j 0 := ⟨_, rfl⟩
            rw [← hx] at hcj hs
            clear hx
            by_cases he : x = v
            · have t : (x == v) = true := by simp [he]
              rw [if_pos he] at hs
              have HS := Lib.hid hs; clear hs he
              go_wp2_with (at_builtin; refine append_one _ rfl (.tmp 35) (.tmp 37) rfl w.heap.size Try.underlying25 info64 _ _ rfl (HO.out.below ((Below.refl _ _).alloc (Nat.le_refl _) _)) _ _ _ rfl (new_cell rfl) hl2 (by simp; omega) ?_; intro v' w' hown hbel)
              have HO' := Lib.hid hown; clear hown
              have HB' := Lib.hid hbel; clear hbel
              go_wp2
              go_roundw
              case rel => exact ⟨j + 1, by omega, by go_num, by rw [HS.out]; exact HO'.out, (HB.out.alloc (by omega) _).trans HB'.out⟩
              case measure => simp [intOf]; omega
            · have t : (x == v) = false := by simp [he]
              rw [if_neg he] at hs
              have HS := Lib.hid hs; clear hs he
              go_wp2
              go_roundw
              case rel => exact ⟨j + 1, by omega, by go_num, by rw [HS.out]; exact HO.out, HB.out⟩
              case measure => simp [intOf]; omega
          · have hjn : j = n := by omega
            subst hjn
            clear hck hckr hbel
            go_wp2
            go_ret2
            exact ⟨_, rfl, by rw [HL.out]; exact HO.out, HB.out⟩
      · rw [cl_no3 (by omega)]
        have hk1 : (n : Int) ≤ (k : Int) := by omega
        have hk2 : ¬ (k : Int) < 0 := by omega
        have HV := Lib.hid hv; clear hv hlen hat h0
        go_enter Try.func32, Try.ntmps32
        go_wp2_with fail
        refine (areVectors_any _ _ _ _ _ HR.out (by omega)).mono ?_
        rintro e w' ⟨rfl, rfl⟩
        rw [HV.out]
        go_wp2
        go_ret2
        exact ⟨_, rfl, Own.nil_, Below.refl _ _⟩
/-- spec.CliqueOf. -/
theorem sCliqueOf_any (ao : Option Addr) (n cap : Nat) (xs : List Int) (k : Int) (w : World) (hr : Rd w ao n xs) (hn : n ≤ 1048576) :
    Calls Try.prog 35 #[.slice ao n cap, .int .i64 k] w (Makes2 2 w (cliqueOf xs k).1 (cliqueOf xs k).2) := by
  have HR := Lib.hid hr
  obtain ⟨hlen, hat⟩ := hr
  by_cases h32 : n ≤ 32
  rotate_left
  · rw [cl_no1 (areVecs_long (by omega))]
    have h32' : (32 : Int) < (n : Int) := by omega
    clear hlen hat
    go_enter Try.func35, Try.ntmps35
    go_wp2
    go_ret2
    exact ⟨_, rfl, Own.nil_, Below.refl _ _⟩
  have h32' : ¬ (32 : Int) < (n : Int) := by omega
  have hall := areVecs_all (xs := xs) (by omega)
  cases hv : areVecs xs with
  | false =>
    rw [cl_no1 hv]
    rw [hv] at hall
    have HV := Lib.hid hall.symm; clear hv hlen hat hall
    go_enter Try.func35, Try.ntmps35
    go_wp2_with fail
    refine (l05Vector_any _ _ _ _ _ HR.out (by omega)).mono ?_
    rintro e w' ⟨rfl, rfl⟩
    rw [HV.out]
    go_wp2
    go_ret2
    exact ⟨_, rfl, Own.nil_, Below.refl _ _⟩
  | true =>
    rw [hv] at hall
    have HA := Lib.hid hall.symm; clear hall
    by_cases h0 : 0 ≤ k ∧ k ≤ (n : Int) - 1
    · obtain ⟨hk0, hk1⟩ := h0
      obtain ⟨k, rfl⟩ := Int.eq_ofNat_of_zero_le hk0
      have h1 : k < n := by omega
      rw [cl_yes hv (by omega)]
      obtain ⟨b, off, rfl, hc⟩ := hat (by omega)
      have hck := hc k h1
      have hblt : b < w.heap.size := World.block_lt_of_cell? w _ hck
      obtain ⟨v, hvv⟩ : ∃ v, v = xs.getD k 0 := ⟨_, rfl⟩
      rw [← hvv] at hck ⊢
      have HVV := Lib.hid hvv; clear hvv
      have HC := Lib.hid hc; clear hc hat hv
      have HL := Lib.hid hlen; clear hlen
      go_enter Try.func35, Try.ntmps35
      go_wp2_with fail
      refine (l05Vector_any _ _ _ _ _ HR.out (by omega)).mono ?_
      rintro e w' ⟨rfl, rfl⟩
      rw [HA.out]
      go_wp2_with fail
      refine (l01In_yes _ _ _ _ hk0 hk1).mono ?_
      rintro e w' ⟨rfl, rfl⟩
      have hk3 : (k : Int) < (n : Int) := by omega
      go_wp2
      go_loopw [6, 7] (fun s i wr => ∃ j : Nat, j ≤ n ∧ i = .int .i64 j ∧ Own 2 wr w.heap.size s (placesTo xs v j) ∧ Below w.heap.size w wr) (fun _ i _ => n - (intOf i).toNat)
      case atStart => exact ⟨0, by omega, rfl, Own.of_alloc_nil (Nat.le_refl _), (Below.refl _ _).alloc (Nat.le_refl _) _⟩
      case round =>
        obtain ⟨j, hj, rfl, hown, hbel⟩ := hrel
        have HB := Lib.hid hbel
        have hsz := hbel.size
        have hckr := (hbel.cell (p := ⟨b, off + k, none⟩) hblt).trans hck
        have HO := Lib.hid hown; clear hown
        by_cases hlt : j < n
        · have hlen := placesTo_len xs v j
          have hl2 : (placesTo xs v j).length ≤ 4294967296 := by omega
          clear hlen
          have hcj := (hbel.cell (p := ⟨b, off + j, none⟩) hblt).trans (HC.out j hlt)
          clear hbel hck
          have hs := placesTo_succ xs v j
          obtain ⟨x, hx⟩ : ∃ x, x = xs.getD j 0 := ⟨_, rfl⟩
          rw [← hx] at hcj hs
          clear hx
          by_cases he : x = v
          · have t : (x == v) = true := by simp [he]
            rw [if_pos he] at hs
            have HS := Lib.hid hs; clear hs he
            go_wp2
            go_quiet (fail)
            have HO2 := fun q => HO.out.below (below_drewN' (Below.refl wr.heap.size wr) q)
            go_wp2_with (at_builtin; refine append_one _ rfl (.tmp 40) (.tmp 42) rfl w.heap.size Try.underlying25 info64 _ _ rfl ((HO2 _).below ((Below.refl _ _).alloc (Nat.le_refl _) _)) _ _ _ rfl (new_cell rfl) hl2 (by simp; omega) ?_; intro v' w' hown hbel)
            have HO' := Lib.hid hown; clear hown
            have HB' := Lib.hid hbel; clear hbel
            go_wp2
            go_roundw
            case rel => exact ⟨j + 1, by omega, by go_num, by rw [HS.out]; exact HO'.out, ((below_drewN' HB.out _).alloc (by exact hsz) _).trans HB'.out⟩
            case measure => simp [intOf]; omega
          · have t : (x == v) = false := by simp [he]
            rw [if_neg he] at hs
            have HS := Lib.hid hs; clear hs he
            go_wp2
            go_quiet (fail)
            go_wp2
            go_roundw
            case rel => exact ⟨j + 1, by omega, by go_num, by rw [HS.out]; exact HO.out.below (below_drewN' (Below.refl wr.heap.size wr) _), below_drewN' HB.out _⟩
            case measure => simp [intOf]; omega
        · have hjn : j = n := by omega
          subst hjn
          clear hck hckr hbel
          go_wp2
          go_ret2
          exact ⟨_, rfl, by rw [HL.out]; exact HO.out, HB.out⟩
    · have hno : cliqueOf xs k = ([], 2) := by
        by_cases h : k < 0
        · exact cl_no2 h
        · exact cl_no3 (by omega)
      rw [hno]
      clear hv hlen hat hno
      go_enter Try.func35, Try.ntmps35
      go_wp2_with fail
      refine (l05Vector_any _ _ _ _ _ HR.out (by omega)).mono ?_
      rintro e w' ⟨rfl, rfl⟩
      rw [HA.out]
      go_wp2_with fail
      refine (l01In_no _ _ _ _ (by omega)).mono ?_
      rintro e w' ⟨rfl, rfl⟩
      go_wp2
      go_ret2
      exact ⟨_, rfl, Own.nil_, Below.refl _ _⟩
end Go.Proofs.Ytkidhilipeoliaa
