/-
  Chapter 9, the model: ImageOf and DataOfImage.
-/
import Derived.Test.YtckaknaeddiphaaK6
namespace Go.Proofs.Ytckaknaeddiphaa
open Go.RowKit

theorem sImageOf_any (ao : Option Addr) (cap : Nat) (xs : List Int) (w : World) (hr : Rd w ao xs.length xs) (hn : xs.length ≤ 1048576) (hcap : xs.length ≤ cap) (hcap2 : cap ≤ 9223372036854775807) :
    Calls Try.prog 12 #[.slice ao xs.length cap] w (Makes2 2 w (imageOf xs).1 (imageOf xs).2) := by
  have hcall := fun W h => sIsBytes_any ao xs.length cap xs W h (by omega)
  have HR := Lib.hid hr; clear hr
  rcases hb : isBytes xs with _ | _
  · rw [show imageOf xs = ([], 2) from by unfold imageOf; rw [hb]; rfl]
    rw [hb] at hcall
    generalize xs.length = n at hcall HR
    go_enter Try.func12, Try.ntmps12
    go_wp2_with fail
    refine (hcall _ HR.out).mono ?_
    rintro e w1 ⟨rfl, rfl⟩
    go_wp2
    go_ret2
    exact ⟨_, rfl, Own.nil_, Below.refl _ _⟩
  · rw [hb] at hcall
    have hfit := fun W => l09Fits_any (xs.length : Int) W
    by_cases hl : 868 < xs.length
    · rw [show imageOf xs = ([], 3) from by unfold imageOf; rw [if_neg (by rw [hb]; simp), if_pos hl]]
      rw [show inRange 0 868 (xs.length : Int) = false from by rw [← Bool.not_eq_true, inRange_iff]; omega] at hfit
      clear hcap hcap2 hn hl
      generalize xs.length = n at *
      go_enter Try.func12, Try.ntmps12
      go_wp2_with fail
      refine (hcall _ HR.out).mono ?_
      rintro e w1 ⟨rfl, rfl⟩
      go_wp2_with fail
      refine (hfit _).mono ?_
      rintro e w1 ⟨rfl, rfl⟩
      go_wp2
      go_ret2
      exact ⟨_, rfl, Own.nil_, Below.refl _ _⟩
    · rw [show imageOf xs = (image9 xs, 0) from by unfold imageOf; rw [if_neg (by rw [hb]; simp), if_neg hl]]
      rw [show inRange 0 868 (xs.length : Int) = true from inRange_iff.2 (by omega)] at hfit
      have hi := fun W h => l09Image_any ao xs.length cap xs W h hb (by omega) hcap hcap2
      generalize image9 xs = img at hi ⊢
      clear hcap hcap2 hn hl
      generalize xs.length = n at *
      go_enter Try.func12, Try.ntmps12
      go_wp2_with fail
      refine (hcall _ HR.out).mono ?_
      rintro e w1 ⟨rfl, rfl⟩
      go_wp2_with fail
      refine (hfit _).mono ?_
      rintro e w1 ⟨rfl, rfl⟩
      go_wp2_with fail
      refine (hi _ HR.out).mono ?_
      rintro e w2 m2
      obtain ⟨p2, c2, rfl, o2, -, b2⟩ := m2.get
      have O2 := Lib.hid o2; have B2 := Lib.hid b2
      clear m2 o2 b2
      go_wp2
      go_ret2
      exact ⟨_, rfl, O2.out, B2.out⟩

/-! ### data out of an image -/
def dataTo (xs : List Int) (k : Nat) : List Int := (List.range k).flatMap fun j => partIn (sliceOf xs j)
theorem dataTo_succ (xs : List Int) (k : Nat) : dataTo xs (k + 1) = dataTo xs k ++ partIn (sliceOf xs k) := by
  unfold dataTo
  rw [List.range_succ, List.flatMap_append]
  simp
theorem partIn_len (b : List Int) : (partIn b).length ≤ b.length - 5 := by unfold partIn; rw [List.length_take]; omega
theorem dataTo_len (xs : List Int) (k : Nat) : (dataTo xs k).length ≤ 28 * k := by
  induction k with
  | zero => simp [dataTo]
  | succ k ih =>
    have h := partIn_len (sliceOf xs k)
    have h2 := slice_len xs k
    rw [dataTo_succ, List.length_append]
    omega
theorem good_slices {xs : List Int} (h : damaged9 xs = []) {k : Nat} (hk : k < slicesOf xs.length) : 5 ≤ (sliceOf xs k).length := by
  have h1 := (List.filter_eq_nil_iff.1 h) k (List.mem_range.2 hk)
  unfold bad9 at h1
  simp at h1
  exact h1.1
theorem dmg_nil (xs : List Int) : dmgTo xs (slicesOf xs.length) = [] ↔ damaged9 xs = [] := by rw [dmgTo_all, List.map_eq_nil_iff]
theorem data_bytes {xs : List Int} (hb : isBytes xs = true) {k : Nat} (hl : (dataTo xs k).length ≤ 1024) : isBytes (dataTo xs k) = true := by
  refine isBytes_iff.2 ⟨hl, fun x hx => ?_⟩
  unfold dataTo at hx
  obtain ⟨j, -, hx⟩ := List.mem_flatMap.1 hx
  unfold partIn sliceOf at hx
  exact (isBytes_iff.1 hb).2 x (List.mem_of_mem_drop (List.mem_of_mem_take (List.mem_of_mem_drop (List.mem_of_mem_take hx))))
/-- The data that l09Data hands back, and its code. -/
def dataCode (xs : List Int) : List Int × Int := if damaged9 xs ≠ [] then ([], 7) else if (data9 xs).length ≤ 868 ∧ image9 (data9 xs) = xs then (data9 xs, 0) else ([], 6)
set_option linter.unusedSimpArgs false in
set_option linter.unusedVariables false in
set_option maxHeartbeats 4000000 in
set_option maxRecDepth 100000 in
theorem l09Data_any (ao : Option Addr) (n cap : Nat) (xs : List Int) (w : World) (hr : Rd w ao n xs) (hb : isBytes xs = true) (hcap : n ≤ cap) (hcap2 : cap ≤ 9223372036854775807) :
    Calls Try.prog 45 #[.slice ao n cap] w (Makes2 2 w (dataCode xs).1 (dataCode xs).2) := by
  have hl := hr.len
  have hn := (isBytes_iff.1 hb).1
  have hdm := fun W h => l09Damaged_any ao n cap xs W h hb hcap hcap2
  by_cases hd : damaged9 xs = []
  · rw [← hl, (dmg_nil xs).2 hd, hl] at hdm
    have hgood : Hid (∀ k, 33 * k < n → 5 ≤ (sliceOf xs k).length) := fun k hk => good_slices hd (by unfold slicesOf; omega)
    obtain ⟨N, hN⟩ : ∃ N, (xs.length + 32) / 33 = N := ⟨_, rfl⟩
    have hN9 : N ≤ 32 := by omega
    have hNk : Hid (∀ k, k < N ↔ 33 * k < n) := fun k => by omega
    have hd9 : data9 xs = dataTo xs N := by rw [← hN]; rfl
    have hdl := dataTo_len xs N
    have hdb := data_bytes (xs := xs) hb (k := N) (by omega)
    have hcode : dataCode xs = if (dataTo xs N).length ≤ 868 ∧ image9 (dataTo xs N) = xs then (dataTo xs N, 0) else ([], 6) := by unfold dataCode; rw [if_neg (by simp [hd]), hd9]
    have HDL := Lib.hid hdl; have HDB := Lib.hid hdb; have HCO := Lib.hid hcode
    have HR := Lib.hid hr
    have HN := Lib.hid (show n ≤ 1024 by omega)
    have hsl : Hid (∀ k : Nat, k ≤ 1000 → ∀ W, Rd W ao n xs → Calls Try.prog 50 #[.slice ao n cap, .int .i64 k] W (GivesSl W (sliceOf xs k))) := fun k hk W h => l09Slice_any k ao n cap xs W (by omega) h (by omega) hcap hcap2
    have HL := Lib.hid hl
    clear hl hn hd hN hd9 hdl hdb hcode hr hcap hcap2 hb
    obtain ⟨res, hres⟩ : ∃ res, dataCode xs = res := ⟨_, rfl⟩
    rw [hres]
    rw [hres] at HCO
    clear hres
    go_enter Try.func45, Try.ntmps45
    go_wp2_with fail
    refine (hdm _ HR.out).mono ?_
    rintro e w0 m0
    obtain ⟨p0, c0, rfl, -, -, b0⟩ := m0.get
    have B0 := Lib.hid b0
    clear m0 b0 hdm
    go_wp2
    go_loopw [4, 5] (fun v i wr => ∃ k : Nat, k ≤ N ∧ i = .int .i64 (k : Int) ∧ Hid (Own 2 wr w.heap.size v (dataTo xs k)) ∧ Hid (Below w.heap.size w wr)) (fun _ i _ => N - (intOf i).toNat)
    case atStart => exact ⟨0, Nat.zero_le _, rfl, Own.of_alloc_nil B0.out.size, B0.out.alloc B0.out.size _⟩
    case round =>
      clear B0
      obtain ⟨k, hk, rfl, hown, hbel⟩ := hrel
      by_cases hkN : k < N
      · have hkn := (hNk.out k).1 hkN
        have hlt : (k : Int) * 33 < (n : Int) := by omega
        have h5 := hgood.out k hkn
        have hsc := hsl.out k (by omega)
        have hsu := dataTo_succ xs k
        have hac := dataTo_len xs k
        have h33 := slice_len xs k
        obtain ⟨acc, hacc⟩ : ∃ acc, dataTo xs k = acc := ⟨_, rfl⟩
        rw [hacc] at hsu hac hown
        obtain ⟨bs, hbs⟩ : ∃ bs, sliceOf xs k = bs := ⟨_, rfl⟩
        rw [hbs] at hsu hsc h5 h33
        obtain ⟨m, hm⟩ : ∃ m, bs.length = m + 5 := ⟨bs.length - 5, by omega⟩
        have hpi : partIn bs = (bs.drop 2).take m := by unfold partIn; rw [hm, Nat.add_sub_cancel]
        have HAC := Lib.hid (show acc.length ≤ 1048576 by omega)
        obtain ⟨po, co, rfl, hown, -⟩ := hown.out.get
        have O1 := Lib.hid hown; have B1 := Lib.hid hbel.out
        have HSU := Lib.hid hsu
        have hm9 : m ≤ 1024 := by omega
        clear hown hbel hacc hbs h5 h33 hac hsu hkn
        go_wp2_with fail
        refine (hsc _ (HR.out.below B1.out)).mono ?_
        rintro e w1 ⟨a1, c1, rfl, r1, hc1, hc2, rfl⟩
        rw [hm] at r1 hc1 ⊢
        obtain ⟨c, rfl⟩ : ∃ c, c1 = c + 5 := ⟨c1 - 5, by omega⟩
        have f1 : (2 : Int) ≤ (m : Int) + 2 := by omega
        have f2 : (m : Int) + 2 ≤ (c : Int) + 5 := by omega
        have f3 : (m : Int) + 5 - 3 = (m : Int) + 2 := by omega
        have hrp := r1.slice (a := 2) (k := m) (by omega)
        rw [← hpi] at hrp
        have R1 := Lib.hid hrp
        clear hrp r1 hc1 hc2 hm hpi hsc
        generalize partIn bs = ps at R1 HSU
        go_wp2_with (at_builtin; refine append_list _ rfl (.tmp 22) (.tmp 27) rfl w.heap.size Try.underlying24 info64 _ acc rfl O1.out _ _ _ ps rfl R1.out (by have := HAC.out; omega) (by have := B1.out.size; omega) ?_; intro v4 w4 o4 b4)
        go_roundw
        case rel => exact ⟨k + 1, by omega, by go_num, by rw [HSU.out]; exact o4, B1.out.trans b4⟩
        case measure => simp [intOf]; omega
      · have hkn : k = N := by omega
        subst hkn
        have hlt : ¬ ((k : Int) * 33 < (n : Int)) := by have := mt (hNk.out k).2 hkN; omega
        obtain ⟨d, hdd⟩ : ∃ d, dataTo xs k = d := ⟨_, rfl⟩
        have hco := HCO.out; have hdb := HDB.out; have hdl := HDL.out
        rw [hdd] at hown hco hdb hdl
        obtain ⟨po, co, rfl, hown, -⟩ := hown.out.get
        obtain ⟨ao9, co9, e, hrd, hc1, hc2, -⟩ := hown.form
        cases e
        have O1 := Lib.hid hown; have B1 := Lib.hid hbel.out; have R1 := Lib.hid hrd
        have hfit := fun W => l09Fits_any (d.length : Int) W
        have hc9 : co ≤ 9223372036854775807 := by unfold maxLen at hc2; omega
        clear hown hbel HCO HDB HDL hdd hrd hNk hgood hsl hc2
        by_cases h8 : d.length ≤ 868
        · rw [inRange_iff.2 (show (0 : Int) ≤ (d.length : Int) ∧ (d.length : Int) ≤ 868 by omega)] at hfit
          have hi := fun W h => l09Image_any po d.length co d W h hdb h8 hc1 hc9
          have hil := image_len d
          have h31 := blocks_31 h8
          obtain ⟨img, himg⟩ : ∃ img, image9 d = img := ⟨_, rfl⟩
          rw [himg] at hi hco hil
          have HIL := Lib.hid (show img.length ≤ 1048576 by omega)
          clear hil h31 himg hdb hdl hc1 hc9
          by_cases he : img = xs
          · rw [if_pos ⟨h8, he⟩] at hco
            have hde : decide (img = xs) = true := decide_eq_true he
            subst hco
            have HI := Lib.hid hi; have HDE := Lib.hid hde
            clear hi he hde
            generalize d.length = dn at *
            go_wp2_with fail
            refine (hfit _).mono ?_
            rintro e w1 ⟨rfl, rfl⟩
            go_wp2_with fail
            refine (HI.out _ R1.out).mono ?_
            rintro e w2 m2
            obtain ⟨p2, c2, rfl, -, r2, b2⟩ := m2.get
            have R2 := Lib.hid r2; have B2 := Lib.hid (below_step B1.out B1.out.size b2); have O2 := Lib.hid (O1.out.below b2)
            clear m2 r2 b2
            go_wp2_with fail
            refine (same_any _ _ _ _ _ _ _ _ _ R2.out (HR.out.below B2.out) (by have := HIL.out; omega) (by have := HN.out; omega)).mono ?_
            rintro e w3 ⟨rfl, q, rfl⟩
            rw [HDE.out]
            go_wp2
            go_ret2
            exact ⟨_, rfl, O2.out.below (below_drewN' (Below.refl _ _) _), below_drewN' B2.out _⟩
          · rw [if_neg (by intro hh; exact he hh.2)] at hco
            have hde : decide (img = xs) = false := decide_eq_false he
            subst hco
            have HI := Lib.hid hi; have HDE := Lib.hid hde
            clear hi he hde
            generalize d.length = dn at *
            go_wp2_with fail
            refine (hfit _).mono ?_
            rintro e w1 ⟨rfl, rfl⟩
            go_wp2_with fail
            refine (HI.out _ R1.out).mono ?_
            rintro e w2 m2
            obtain ⟨p2, c2, rfl, -, r2, b2⟩ := m2.get
            have R2 := Lib.hid r2; have B2 := Lib.hid (below_step B1.out B1.out.size b2)
            clear m2 r2 b2
            go_wp2_with fail
            refine (same_any _ _ _ _ _ _ _ _ _ R2.out (HR.out.below B2.out) (by have := HIL.out; omega) (by have := HN.out; omega)).mono ?_
            rintro e w3 ⟨rfl, q, rfl⟩
            rw [HDE.out]
            go_wp2
            go_ret2
            exact ⟨_, rfl, Own.nil_, below_drewN' B2.out _⟩
        · rw [show inRange 0 868 (d.length : Int) = false from by rw [← Bool.not_eq_true, inRange_iff]; omega] at hfit
          rw [if_neg (by intro hh; exact h8 hh.1)] at hco
          subst hco
          clear hdl h8 hc1 hc9
          go_wp2_with fail
          refine (hfit _).mono ?_
          rintro e w1 ⟨rfl, rfl⟩
          go_wp2
          go_ret2
          exact ⟨_, rfl, Own.nil_, B1.out⟩
  · rw [show dataCode xs = ([], 7) from by unfold dataCode; rw [if_pos hd]]
    rw [← hl] at hdm
    have hne : 0 < (dmgTo xs (slicesOf xs.length)).length := by
      rcases h : dmgTo xs (slicesOf xs.length) with _ | ⟨a, l⟩
      · exact absurd ((dmg_nil xs).1 h) hd
      · simp
    generalize dmgTo xs (slicesOf xs.length) = ds at hdm hne
    rw [hl] at hdm
    have HR := Lib.hid hr
    clear hr hb hcap hcap2 hn hd hl
    go_enter Try.func45, Try.ntmps45
    go_wp2_with fail
    refine (hdm _ HR.out).mono ?_
    rintro e w2 m2
    obtain ⟨p2, c2, rfl, -, -, b2⟩ := m2.get
    have B2 := Lib.hid b2
    clear m2 b2
    go_wp2
    go_ret2
    exact ⟨_, rfl, Own.nil_, B2.out⟩
theorem sDataOfImage_any (ao : Option Addr) (cap : Nat) (xs : List Int) (w : World) (hr : Rd w ao xs.length xs) (hn : xs.length ≤ 1048576) (hcap : xs.length ≤ cap) (hcap2 : cap ≤ 9223372036854775807) :
    Calls Try.prog 18 #[.slice ao xs.length cap] w (Makes2 2 w (dataOfImage xs).1 (dataOfImage xs).2) := by
  have hcall := fun W h => sIsBytes_any ao xs.length cap xs W h (by omega)
  have HR := Lib.hid hr; clear hr
  rcases hb : isBytes xs with _ | _
  · rw [show dataOfImage xs = ([], 2) from by unfold dataOfImage; rw [hb]; rfl]
    rw [hb] at hcall
    generalize xs.length = n at hcall HR
    go_enter Try.func18, Try.ntmps18
    go_wp2_with fail
    refine (hcall _ HR.out).mono ?_
    rintro e w1 ⟨rfl, rfl⟩
    go_wp2
    go_ret2
    exact ⟨_, rfl, Own.nil_, Below.refl _ _⟩
  · rw [hb] at hcall
    rw [show dataOfImage xs = dataCode xs from by unfold dataOfImage dataCode; rw [if_neg (by rw [hb]; simp)]]
    have hd := fun W h => l09Data_any ao xs.length cap xs W h hb hcap hcap2
    obtain ⟨ds, c, hdc⟩ : ∃ ds c, dataCode xs = (ds, c) := ⟨_, _, rfl⟩
    rw [hdc] at hd ⊢
    clear hcap hcap2 hn hdc
    generalize xs.length = n at *
    go_enter Try.func18, Try.ntmps18
    go_wp2_with fail
    refine (hcall _ HR.out).mono ?_
    rintro e w1 ⟨rfl, rfl⟩
    go_wp2_with fail
    refine (hd _ HR.out).mono ?_
    rintro e w2 m2
    obtain ⟨p2, c2, rfl, o2, -, b2⟩ := m2.get
    have O2 := Lib.hid o2; have B2 := Lib.hid b2
    clear m2 o2 b2
    go_wp2
    go_ret2
    exact ⟨_, rfl, O2.out, B2.out⟩
end Go.Proofs.Ytckaknaeddiphaa
