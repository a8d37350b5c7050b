/-
  Chapter 9: check numbers of blocks, on both sides; whether a slice is whole; the model's slices.
-/
import Derived.Test.YtckaknaeddiphaaK2
import Derived.Test.YtckaknaeddiphaaK1
import Derived.Deep.RegionHeld3
import Derived.Deep.DeepCutAuto
import Derived.Deep.CutBlock
import Derived.Deep.CutRange
namespace Go.Proofs.Ytckaknaeddiphaa
open Go.RowKit

theorem bytes_take {xs : List Int} (h : isBytes xs = true) (k : Nat) : isBytes (xs.take k) = true := by
  have h1 := isBytes_iff.1 h
  exact isBytes_iff.2 ⟨by rw [List.length_take]; omega, fun x hx => h1.2 x (List.mem_of_mem_take hx)⟩
theorem bytes_drop {xs : List Int} (h : isBytes xs = true) (k : Nat) : isBytes (xs.drop k) = true := by
  have h1 := isBytes_iff.1 h
  exact isBytes_iff.2 ⟨by rw [List.length_drop]; omega, fun x hx => h1.2 x (List.mem_of_mem_drop hx)⟩
theorem std_crc : isCrc 24 6122955 = true := by
  have h := isCrc_put (W := 24) (g := stdG) (by omega) (by omega) (by decide)
  rwa [std_nat] at h
theorem reg_k {k : Nat} (h : k ≤ 1000) : ((regS ((k : Int) + 1)).toNat : Int) = (k : Int) + 1 := reg_id (by omega)
/-- The check number of a list, as the program's CrcOfBytes gives it. -/
theorem crc_check {k : Nat} (hk : k ≤ 1000) {xs : List Int} (hb : isBytes xs = true) : crcOfBytes 24 6122955 ((k : Int) + 1) xs = (checkOf k xs, 0) := by
  have hs := seedIn_put (regS ((k : Int) + 1))
  rw [reg_k hk] at hs
  have hc : crcCode 24 6122955 ((k : Int) + 1) = 0 := by unfold crcCode; rw [std_crc, if_neg (by simp), if_neg (by rw [show ((24 : Nat) : Int) = 24 from rfl] at hs; rw [hs]; simp)]
  rw [coy_0 hc hb]
  rfl
theorem blockCheck_any (k : Nat) (ao : Option Addr) (cap : Nat) (xs : List Int) (w : World) (hk : k ≤ 1000) (hr : Rd w ao xs.length xs) (hb : isBytes xs = true) :
    Calls Try.prog 57 #[.int .i64 k, .slice ao xs.length cap] w (Makes 2 w (three (checkOf k xs))) := by
  have hc := crc_check hk hb
  have hn := (isBytes_iff.1 hb).1
  have hin := checkOf_in k xs
  generalize checkOf k xs = z at hc hin ⊢
  have HC := Lib.hid hc; have HR := Lib.hid hr
  have hcall := fun W h => crcOfBytes_any 24 6122955 ((k : Int) + 1) ao cap xs W h (by omega)
  rw [hc] at hcall
  have HI := Lib.hid hin
  clear hc hr hb hin
  go_enter Try.func57, Try.ntmps57
  go_wp2_with fail
  refine (standardCrc_any _).mono ?_
  rintro e w1 ⟨rfl, b1⟩
  go_wp2_with fail
  refine (hcall _ (HR.out.below b1)).mono ?_
  rintro e w2 ⟨rfl, b2⟩
  go_wp2_with fail
  refine (bytesOfCheck_any z _ HI.out).mono ?_
  rintro e w3 m3
  obtain ⟨p3, c3, rfl, o3, -, b3⟩ := m3.get
  have O3 := Lib.hid (o3.more (below_two b1 b2).size)
  have B3 := Lib.hid (below_two (below_two b1 b2) b3)
  clear m3 o3 b3 b1 b2 hcall
  go_wp2
  go_ret
  exact ⟨_, rfl, O3.out, B3.out⟩
theorem l09Check_any (k : Nat) (ao : Option Addr) (cap : Nat) (xs : List Int) (w : World) (hk : k ≤ 1000) (hr : Rd w ao xs.length xs) (hb : isBytes xs = true) :
    Calls Try.prog 55 #[.int .i64 k, .slice ao xs.length cap] w fun e w' => e = .returned (.int .i64 (checkOf k xs)) ∧ Below w.heap.size w w' := by
  have hn := (isBytes_iff.1 hb).1
  have hreg := reg_k hk
  have h8 := bits8_in xs
  have hl8 : (bitsOf8 xs).length = 8 * xs.length := flat_len xs
  obtain ⟨z, hz⟩ : ∃ z, regOf stdG (regS ((k : Int) + 1)) (bitsOf8 xs) = z := ⟨_, rfl⟩
  rw [show checkOf k xs = z from hz]
  have hbt := fun W h => l01Bits_any ao cap xs W h (by omega)
  change ∀ W, _ → Calls _ _ _ _ (Makes 2 W (bitsOf8 xs)) at hbt
  generalize bitsOf8 xs = b8 at h8 hl8 hbt hz
  have hf := fun p c W h => feedStd_any (regS ((k : Int) + 1)) p b8.length c b8 ((k : Int) + 1) W hreg h (by omega) h8
  rw [hz] at hf
  clear hz hreg h8 hb hl8
  have HR := Lib.hid hr; clear hr
  go_enter Try.func55, Try.ntmps55
  go_wp2_with fail
  refine (sStandardCrc_any _).mono ?_
  rintro e w1 ⟨rfl, b1⟩
  go_wp2_with fail
  refine (hbt _ (HR.out.below b1)).mono ?_
  rintro e w2 m2
  obtain ⟨p2, c2, rfl, -, r2, b2⟩ := m2.get
  have B2 := Lib.hid (below_two b1 b2)
  have R2 := Lib.hid r2
  clear m2 b1 b2 r2 hbt
  go_wp2_with fail
  refine (hf _ _ _ R2.out).mono ?_
  rintro e w3 ⟨rfl, b3⟩
  have B3 := Lib.hid (below_two B2.out b3)
  clear b3 hf
  go_wp2
  go_ret
  exact ⟨rfl, B3.out⟩
theorem three_last {xs : List Int} (hb : ∀ x ∈ xs, 0 ≤ x ∧ x ≤ 255) {z : Int} (_hz : 0 ≤ z ∧ z ≤ 16777215) (hl : 3 ≤ xs.length) : (xs.drop (xs.length - 3) = three z) ↔ z = lastThree xs := by
  obtain ⟨m, hm⟩ : ∃ m, xs.length = m + 3 := ⟨xs.length - 3, by omega⟩
  have e : xs.drop m = [xs.getD m 0, xs.getD (m + 1) 0, xs.getD (m + 2) 0] := by
    apply List.ext_getElem
    · simp [hm]
    · intro i h1 h2
      simp only [List.length_cons, List.length_nil] at h2
      rcases i with _ | _ | _ | i
      · simp [List.getD, show m < xs.length from by omega]
      · simp [List.getD, show m + 1 < xs.length from by omega]
      · simp [List.getD, show m + 2 < xs.length from by omega]
      · omega
  have g : ∀ i, i < xs.length → 0 ≤ xs.getD i 0 ∧ xs.getD i 0 ≤ 255 := fun i hi => hb _ (by simp only [List.getD, List.getElem?_eq_getElem hi, Option.getD_some]; exact List.getElem_mem hi)
  have g0 := g m (by omega); have g1 := g (m + 1) (by omega); have g2 := g (m + 2) (by omega)
  unfold lastThree three
  rw [hm, Nat.add_sub_cancel, e]
  generalize xs.getD m 0 = a at *
  generalize xs.getD (m + 1) 0 = b at *
  generalize xs.getD (m + 2) 0 = c at *
  simp only [List.cons.injEq, and_true]
  omega
theorem bad9_eq (k : Nat) {b : List Int} (hb : ∀ x ∈ b, 0 ≤ x ∧ x ≤ 255) (hl : 5 ≤ b.length) : decide (b.drop (b.length - 3) = three (checkOf k (b.take (b.length - 3)))) = !bad9 k b := by
  have h := three_last hb (checkOf_in k (b.take (b.length - 3))) (by omega)
  unfold bad9
  rw [show decide (b.length < 5) = false from by simp; omega, Bool.false_or]
  rw [show decide (b.drop (b.length - 3) = three (checkOf k (b.take (b.length - 3)))) = decide (checkOf k (b.take (b.length - 3)) = lastThree b) from decide_eq_decide.2 h]
  simp
set_option maxRecDepth 100000 in
set_option linter.unusedSimpArgs false in
set_option maxHeartbeats 1000000 in
theorem isIntact_any (k : Nat) (ao : Option Addr) (n cap : Nat) (xs : List Int) (w : World) (hk : k ≤ 1000) (hr : Rd w ao n xs) (hb : isBytes xs = true) (hcap : n ≤ cap) (hcap2 : cap ≤ 9223372036854775807) :
    Calls Try.prog 43 #[.int .i64 k, .slice ao n cap] w fun e w' => e = .returned (.bool (!bad9 k xs)) ∧ Below w.heap.size w w' := by
  have hlen := hr.len
  subst hlen
  have hn := (isBytes_iff.1 hb).1
  by_cases h5 : xs.length < 5
  · rw [show bad9 k xs = true from by unfold bad9; simp [h5]]
    generalize xs.length = n at h5 hn
    go_enter Try.func43, Try.ntmps43
    go_wp2
    go_ret
    exact ⟨rfl, Below.refl _ _⟩
  · have he := bad9_eq k (isBytes_iff.1 hb).2 (by omega)
    obtain ⟨m, hm⟩ : ∃ m, xs.length = m + 3 := ⟨xs.length - 3, by omega⟩
    obtain ⟨c, rfl⟩ : ∃ c, cap = c + 3 + m := ⟨cap - 3 - m, by omega⟩
    rw [show xs.length - 3 = m from by omega] at he
    have hbt := bytes_take hb m
    have hlt : (xs.take m).length = m := by rw [List.length_take]; omega
    have hrt : Rd w ao m (xs.take m) := hr.head9 (by omega)
    have hrd : Rd w (Option.map (fun x => x.add m) ao) 3 (xs.drop m) := hr.tail9 (by omega)
    have h5' : ¬ ((m : Int) + 3 < 5) := by omega
    have f1 : (m : Int) ≤ (m : Int) + 3 := by omega
    have f2 : (m : Int) ≤ (c : Int) + 3 + (m : Int) := by omega
    have hkc := fun W h => blockCheck_any k ao (c + 3 + m) (xs.take m) W hk h hbt
    rw [hlt] at hkc
    rw [← he, hm]
    generalize checkOf k (xs.take m) = z at hkc ⊢
    generalize xs.drop m = ds at hrd ⊢
    generalize xs.take m = ts at hkc hrt
    have HM := Lib.hid hm
    have RA := Lib.hid hrd; have RT := Lib.hid hrt
    have hm9 : m ≤ 1024 := by omega
    have HCA : Hid (c + 3 + m ≤ 9223372036854775807) := hcap2
    clear hm hrd hrt hbt hlt he hr hb hn h5 hcap hcap2
    have HK := Lib.hid hkc; clear hkc
    go_enter Try.func43, Try.ntmps43
    go_upto_region 4 with fail
    have B1 := Lib.hid (Below.drew (Below.refl w.heap.size w))
    refine wp_region_held_drew (S := fun w' => True) (by kernel_rfl) (trivial) (fun hHeld => ?_)
    refine wpAnyH_take (i := 0) (v := ?_) rfl (by kernel_rfl) (by kernel_rfl) (by kernel_rfl) (fun _ _ _ h => h) (Or.inl ⟨by rfl, ?_⟩) (by assumption) ?_
    rotate_left
    · (intro w hSw; (try dsimp only at hSw); go_simp; (try with_reducible rfl))
    try simp only [List.getElem_toArray, List.getElem_cons_succ, List.getElem_cons_zero, Act.put, List.setIfInBounds_toArray, List.set_cons_zero, List.set_cons_succ]
    refine wpAnyH_take (i := 1) (v := ?_) rfl (by kernel_rfl) (by kernel_rfl) (by kernel_rfl) (fun _ _ _ h => h) (Or.inl ⟨by rfl, ?_⟩) (by assumption) ?_
    rotate_left
    · (intro w hSw; (try dsimp only at hSw); go_simp; (try with_reducible rfl))
    try simp only [List.getElem_toArray, List.getElem_cons_succ, List.getElem_cons_zero, Act.put, List.setIfInBounds_toArray, List.set_cons_zero, List.set_cons_succ]
    refine wpAnyH_take (i := 2) (v := ?_) rfl (by kernel_rfl) (by kernel_rfl) (by kernel_rfl) (fun _ _ _ h => h) (Or.inl ⟨by rfl, ?_⟩) (by assumption) ?_
    rotate_left
    · (intro w hSw; (try dsimp only at hSw); go_simp; (try with_reducible rfl))
    try simp only [List.getElem_toArray, List.getElem_cons_succ, List.getElem_cons_zero, Act.put, List.setIfInBounds_toArray, List.set_cons_zero, List.set_cons_succ]
    refine wpAnyH_take (i := 3) (v := ?_) rfl (by kernel_rfl) (by kernel_rfl) (by kernel_rfl) (fun _ _ _ h => h) (Or.inl ⟨by rfl, ?_⟩) (by assumption) ?_
    rotate_left
    · (intro w hSw; (try dsimp only at hSw); go_simp; (try with_reducible rfl))
    try simp only [List.getElem_toArray, List.getElem_cons_succ, List.getElem_cons_zero, Act.put, List.setIfInBounds_toArray, List.set_cons_zero, List.set_cons_succ]
    refine wpAnyH_take (i := 4) (v := ?_) rfl (by kernel_rfl) (by kernel_rfl) (by kernel_rfl) (fun _ _ _ h => h) (Or.inl ⟨by rfl, ?_⟩) (by assumption) ?_
    rotate_left
    · (intro w hSw; (try dsimp only at hSw); go_simp; (try with_reducible rfl))
    try simp only [List.getElem_toArray, List.getElem_cons_succ, List.getElem_cons_zero, Act.put, List.setIfInBounds_toArray, List.set_cons_zero, List.set_cons_succ]
    refine wpAnyH_take (i := 5) (v := ?_) rfl (by kernel_rfl) (by kernel_rfl) (by kernel_rfl) (fun _ _ _ h => h) (Or.inl ⟨by rfl, ?_⟩) (by assumption) ?_
    rotate_left
    · (intro w hSw; (try dsimp only at hSw); go_simp; (try with_reducible rfl))
    try simp only [List.getElem_toArray, List.getElem_cons_succ, List.getElem_cons_zero, Act.put, List.setIfInBounds_toArray, List.set_cons_zero, List.set_cons_succ]
    refine wpAnyH_take (i := 6) (v := ?_) rfl (by kernel_rfl) (by kernel_rfl) (by kernel_rfl) (fun _ _ _ h => h) (Or.inl ⟨by rfl, ?_⟩) (by assumption) ?_
    rotate_left
    · (intro w hSw; (try dsimp only at hSw); go_simp; (try with_reducible rfl))
    try simp only [List.getElem_toArray, List.getElem_cons_succ, List.getElem_cons_zero, Act.put, List.setIfInBounds_toArray, List.set_cons_zero, List.set_cons_succ]
    refine wpAnyH_ready (rs := [7]) (by kernel_rfl) (by simp) (AllReadyH.cons rfl (fun K hK => ?_) AllReadyH.nil)
    go_simp
    refine (HK.out _ (RT.out.below B1.out)).mono ?_
    rintro e w2 m2
    obtain ⟨p2, c2, rfl, -, r2, b2⟩ := m2.get
    have R2 := Lib.hid r2
    have B2 := Lib.hid (below_two B1.out b2)
    clear m2 r2 b2
    go_wp2_with fail
    refine hK.out _ _ ?_ (fun hHeld => ?_)
    · exact trivial
    clear hK K
    try simp only [List.getElem_toArray, List.getElem_cons_succ, List.getElem_cons_zero, Act.put, List.setIfInBounds_toArray, List.set_cons_zero, List.set_cons_succ]
    refine wpAnyH_ready (rs := [8]) (by kernel_rfl) (by simp) (AllReadyH.cons rfl (fun K hK => ?_) AllReadyH.nil)
    go_simp
    refine (equal_any _ _ _ _ _ _ _ _ _ (RA.out.below B2.out) R2.out (by omega) (by rw [three_len]; omega)).mono ?_
    rintro e w3 ⟨rfl, q, rfl⟩
    go_wp2_with fail
    refine hK.out _ _ ?_ (fun hHeld => ?_)
    · exact trivial
    clear hK K
    try simp only [List.getElem_toArray, List.getElem_cons_succ, List.getElem_cons_zero, Act.put, List.setIfInBounds_toArray, List.set_cons_zero, List.set_cons_succ]
    refine wpAnyH_take (i := 9) (v := ?_) rfl (by kernel_rfl) (by kernel_rfl) (by kernel_rfl) (fun _ _ _ h => h) (Or.inl ⟨by rfl, ?_⟩) (by assumption) ?_
    rotate_left
    · (intro w hSw; (try dsimp only at hSw); go_simp; (try with_reducible rfl))
    try simp only [List.getElem_toArray, List.getElem_cons_succ, List.getElem_cons_zero, Act.put, List.setIfInBounds_toArray, List.set_cons_zero, List.set_cons_succ]
    refine wpAnyH_done (by kernel_rfl) ?_ _
    go_wp2
    go_ret
    exact ⟨rfl, below_drewN' B2.out _⟩
end Go.Proofs.Ytckaknaeddiphaa
