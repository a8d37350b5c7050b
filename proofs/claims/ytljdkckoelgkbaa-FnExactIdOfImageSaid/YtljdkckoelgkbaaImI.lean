/-
  Chapter 14: IdOfImage, on both sides.
-/
import Derived.Test.YtljdkckoelgkbaaKD
import Derived.Test.YtljdkckoelgkbaaK5
import Derived.Test.YtljdkckoelgkbaaCtn
import Derived.Test.YtljdkckoelgkbaaHas
import Derived.Test.YtljdkckoelgkbaaNumB
import Derived.Test.YtljdkckoelgkbaaIm0
import Derived.BigQuiet
namespace Go.Proofs.Ytljdkckoelgkbaa
open Go.RowKit

theorem id_bytes {bs : List Int} (h : ∀ x ∈ bs, 0 ≤ x ∧ x ≤ 255) (hl : 8 ≤ bs.length) : byteNum ((partIn bs).take 3) = idFrom (bs.drop 2) ∧ 0 ≤ idFrom (bs.drop 2) ∧ idFrom (bs.drop 2) ≤ 16777215 := by
  have e : (partIn bs).take 3 = (bs.drop 2).take 3 := by unfold partIn; rw [List.take_take, Nat.min_eq_left (by omega)]
  have hb3 : ∀ x ∈ (bs.drop 2).take 3, 0 ≤ x ∧ x ≤ 255 := fun x hx => h x (List.mem_of_mem_drop (List.mem_of_mem_take hx))
  have h3 := byteNum_three (xs := bs.drop 2) (by rw [List.length_drop]; omega)
  have h4 := byteNum_in3 hb3 (by rw [List.length_take]; omega)
  rw [e]
  have : idFrom (bs.drop 2) = byteNum ((bs.drop 2).take 3) := h3.symm
  exact ⟨this.symm, by rw [this]; exact h4.1, by rw [this]; exact h4.2⟩
theorem dmg_has (xs : List Int) : decide ((0 : Int) ∈ (damaged9 xs).map fun j : Nat => (j : Int)) = decide (0 ∈ damaged9 xs) := by
  rw [decide_eq_decide, List.mem_map]
  constructor
  · rintro ⟨j, hj, e⟩
    have : j = 0 := by omega
    rw [← this]; exact hj
  · exact fun h => ⟨0, h, rfl⟩
theorem dmg_len (xs : List Int) : ((damaged9 xs).map fun j : Nat => (j : Int)).length ≤ xs.length + 1 := by
  have := dmgTo_len xs (slicesOf xs.length)
  rw [dmgTo_all] at this
  have h2 : slicesOf xs.length ≤ xs.length + 1 := by unfold slicesOf; omega
  omega
theorem dmg_not {xs : List Int} (h : 0 ∉ damaged9 xs) : 5 ≤ (sliceOf xs 0).length ∧ 0 < xs.length := by
  have h1 : bad9 0 (sliceOf xs 0) = false := by
    rw [Bool.eq_false_iff]
    intro hb
    exact h (List.mem_filter.2 ⟨List.mem_range.2 (Nat.le_max_left 1 _), hb⟩)
  unfold bad9 at h1
  simp only [Bool.or_eq_false_iff, decide_eq_false_iff_not] at h1
  have := slice_len xs 0
  omega
theorem ioi_2 {xs : List Int} (h : isBytes xs = false) : idOfImage xs = (0, 2) := by unfold idOfImage; rw [if_pos h]
theorem ioi_7 {xs : List Int} (h : isBytes xs = true) (hd : 0 ∈ damaged9 xs) : idOfImage xs = (0, 7) := by unfold idOfImage; rw [if_neg (by rw [h]; simp), if_pos hd]
theorem ioi_6 {xs : List Int} (h : isBytes xs = true) (hd : 0 ∉ damaged9 xs) (hs : (sliceOf xs 0).length < 8 ∨ (sliceOf xs 0).getD 0 0 ≠ 0) : idOfImage xs = (0, 6) := by unfold idOfImage; rw [if_neg (by rw [h]; simp), if_neg hd, if_pos hs]
theorem ioi_z {xs : List Int} (h : isBytes xs = true) (hd : 0 ∉ damaged9 xs) (hs : ¬ ((sliceOf xs 0).length < 8 ∨ (sliceOf xs 0).getD 0 0 ≠ 0)) (h0 : idFrom ((sliceOf xs 0).drop 2) = 0) : idOfImage xs = (0, 6) := by unfold idOfImage; rw [if_neg (by rw [h]; simp), if_neg hd, if_neg hs, if_pos h0]
theorem ioi_0 {xs : List Int} (h : isBytes xs = true) (hd : 0 ∉ damaged9 xs) (hs : ¬ ((sliceOf xs 0).length < 8 ∨ (sliceOf xs 0).getD 0 0 ≠ 0)) (h0 : idFrom ((sliceOf xs 0).drop 2) ≠ 0) : idOfImage xs = (idFrom ((sliceOf xs 0).drop 2), 0) := by unfold idOfImage; rw [if_neg (by rw [h]; simp), if_neg hd, if_neg hs, if_neg h0]
/-- impl.isMedlId of a number of three bytes. -/
theorem medlId_any (x : Int) (w : World) (h0 : 0 ≤ x) (h1 : x ≤ 16777215) : Calls Try.prog 37 #[.int .i64 x] w fun e w' => e = .returned (.bool (x != 0)) ∧ w' = w := by
  have hid : ∀ W, Calls Try.prog 46 #[.int .i64 x] W fun e w' => e = .returned (.bool true) ∧ w' = W := fun W => by
    go_enter Try.func46, Try.ntmps46
    go_wp2
    go_ret
    exact ⟨rfl, rfl⟩
  have HI := Lib.hid hid
  clear hid
  rcases hx : (x != 0) with _ | _
  · go_enter Try.func37, Try.ntmps37
    go_wp2_with (go_at_call 46; refine (HI.out _).mono ?_; rintro e w' ⟨rfl, rfl⟩)
    go_ret
    exact ⟨rfl, rfl⟩
  · go_enter Try.func37, Try.ntmps37
    go_wp2_with (go_at_call 46; refine (HI.out _).mono ?_; rintro e w' ⟨rfl, rfl⟩)
    go_ret
    exact ⟨rfl, rfl⟩
set_option maxRecDepth 100000 in
set_option maxHeartbeats 4000000 in
theorem idOfImage_any (ao : Option Addr) (cap : Nat) (xs : List Int) (w : World) (hr : Rd w ao xs.length xs) (hn : xs.length ≤ 1048576) (hcap : xs.length ≤ cap) (hcap2 : cap ≤ 9223372036854775807) :
    Calls Try.prog 18 #[.slice ao xs.length cap] w fun e w' => e = .returned (.tuple #[.int .i64 (idOfImage xs).1, .int .i64 (idOfImage xs).2]) ∧ Below w.heap.size w w' := by
  have HDC := Lib.hid (fun W h => damagedBlocks_any ao cap xs W h hn hcap hcap2)
  have HBA := Lib.hid (fun W h => blockAt_any ao cap xs 0 W h hn hcap hcap2)
  have HR := Lib.hid hr
  rcases hb : isBytes xs with _ | _
  · rw [ioi_2 hb]
    rw [show damagedBlocks xs = ([], 2) from by unfold damagedBlocks; rw [if_pos hb]] at HDC
    clear hb HBA
    generalize xs.length = n at *
    go_enter Try.func18, Try.ntmps18
    go_wp2_with fail
    refine (HDC.out _ HR.out).mono ?_
    rintro e w1 m1
    obtain ⟨p1, c1, rfl, -, -, b1⟩ := m1.get
    go_wp2_with fail
    go_ret2
    exact ⟨rfl, b1⟩
  rw [show damagedBlocks xs = ((damaged9 xs).map (fun j : Nat => (j : Int)), 0) from by unfold damagedBlocks; rw [if_neg (by rw [hb]; simp)]] at HDC
  have hx9 := (isBytes_iff.1 hb).1
  have hdl := dmg_len xs
  have hdh := dmg_has xs
  generalize (damaged9 xs).map (fun j : Nat => (j : Int)) = ds at HDC hdl hdh
  by_cases hd : 0 ∈ damaged9 xs
  · rw [ioi_7 hb hd]
    rw [decide_eq_true hd] at hdh
    have HDH := Lib.hid hdh
    clear hb HBA hd hdh
    generalize xs.length = n at *
    go_enter Try.func18, Try.ntmps18
    go_wp2_with fail
    refine (HDC.out _ HR.out).mono ?_
    rintro e w1 m1
    obtain ⟨p1, c1, rfl, -, r1, b1⟩ := m1.get
    have R1 := Lib.hid r1; have B1 := Lib.hid b1
    clear m1 r1 b1
    go_wp2_with fail
    refine (contains_any _ _ _ _ 0 _ R1.out (by omega)).mono ?_
    rintro e w2 ⟨rfl, rfl⟩
    rw [HDH.out]
    go_wp2_with fail
    go_ret2
    exact ⟨rfl, B1.out⟩
  rw [decide_eq_false hd] at hdh
  have HDH := Lib.hid hdh
  obtain ⟨h5, hx0⟩ := dmg_not hd
  rw [show blockAt xs 0 = (sliceOf xs 0, 0) from by unfold blockAt; rw [if_neg (by rw [hb]; simp), if_pos ⟨Int.le_refl _, by omega⟩]; rfl] at HBA
  have H6 := Lib.hid (ioi_6 hb hd); have HZ := Lib.hid (ioi_z hb hd); have H0 := Lib.hid (ioi_0 hb hd)
  have hbb : ∀ x ∈ sliceOf xs 0, 0 ≤ x ∧ x ≤ 255 := fun x hx => (isBytes_iff.1 hb).2 x (by unfold sliceOf at hx; exact List.mem_of_mem_drop (List.mem_of_mem_take hx))
  have hib := id_bytes hbb
  have h33 := slice_len xs 0
  generalize sliceOf xs 0 = bs at *
  have hpb : ∀ x ∈ partIn bs, 0 ≤ x ∧ x ≤ 255 := fun x hx => hbb x (by unfold partIn at hx; exact List.mem_of_mem_drop (List.mem_of_mem_take hx))
  obtain ⟨m, hm⟩ : ∃ m, bs.length = m + 5 := ⟨bs.length - 5, by omega⟩
  have hpi : partIn bs = (bs.drop 2).take m := by unfold partIn; rw [hm, Nat.add_sub_cancel]
  have hpl : (partIn bs).length = m := by rw [hpi, List.length_take, List.length_drop]; omega
  have HPB := Lib.hid hpb; have HPI := Lib.hid hpi; have HPL := Lib.hid hpl; have HIB := Lib.hid hib
  have hm9 : m ≤ 100 := by omega
  clear hb hd hdh hbb hpb hpi hpl hib h33 h5
  have HM := Lib.hid hm
  have hbz : bs.length = m + 5 := hm
  generalize hbl : bs.length = bl at *
  subst hbz
  generalize xs.length = n at *
  go_enter Try.func18, Try.ntmps18
  go_wp2_with fail
  refine (HDC.out _ HR.out).mono ?_
  rintro e w1 m1
  obtain ⟨p1, c1, rfl, -, r1, b1⟩ := m1.get
  have R1 := Lib.hid r1; have B1 := Lib.hid b1
  clear m1 r1 b1
  go_wp2_with fail
  refine (contains_any _ _ _ _ 0 _ R1.out (by omega)).mono ?_
  rintro e w2 ⟨rfl, rfl⟩
  rw [HDH.out]
  clear HDH R1
  go_wp2_with fail
  refine (HBA.out _ (HR.out.below B1.out)).mono ?_
  rintro e w3 m3
  obtain ⟨p3, c3, rfl, o3, r3, b3⟩ := m3.get
  have hcc := (Own.cap o3)
  dsimp only at r3 hcc ⊢
  rw [hbl] at r3 hcc ⊢
  obtain ⟨b, off, rfl, hc⟩ := r3.here (by omega)
  have hc0 := hc 0 (by omega)
  rw [Nat.add_zero] at hc0
  obtain ⟨c, rfl⟩ : ∃ c, c3 = c + 5 := ⟨c3 - 5, by omega⟩
  have f1 : (2 : Int) ≤ (m : Int) + 2 := by omega
  have f2 : (m : Int) + 2 ≤ (c : Int) + 5 := by omega
  have f3 : (m : Int) + 5 - 3 = (m : Int) + 2 := by omega
  have hrp := r3.slice (a := 2) (k := m) (by omega)
  rw [← HPI.out] at hrp
  have R3 := Lib.hid hrp; have B3 := Lib.hid (below_two B1.out b3)
  clear hrp r3 hc m3 o3 b3 HBA HDC
  obtain ⟨h0, hh0⟩ : ∃ y, y = bs.getD 0 0 := ⟨_, rfl⟩
  rw [← hh0] at hc0
  have HH0 := Lib.hid hh0
  clear hh0
  by_cases hz : h0 = 0
  rotate_left
  · have hne : (h0 != 0) = true := by simp [hz]
    have HF := Lib.hid (H6.out (.inr (by rw [← HH0.out]; exact hz)))
    clear hz
    go_wp2_with fail
    go_ret2
    rw [HF.out]
    exact ⟨rfl, B3.out⟩
  have hne : (h0 != 0) = false := by simp [hz]
  by_cases h3 : m < 3
  · have HF := Lib.hid (H6.out (.inl (by omega)))
    have h3i : (m : Int) < 3 := by omega
    clear hz
    go_wp2_with fail
    go_ret2
    rw [HF.out]
    exact ⟨rfl, B3.out⟩
  have h3i : ¬ (m : Int) < 3 := by omega
  have h3j : (3 : Int) ≤ (c : Int) + 3 := by omega
  have HNS := Lib.hid (show ¬ (m + 5 < 8 ∨ bs.getD 0 0 ≠ 0) from by rw [← HH0.out]; omega)
  have hrq := R3.out.head9 (a := 3) (by omega)
  have hib := HIB.out (by omega)
  have hby3 : ∀ x ∈ (partIn bs).take 3, 0 ≤ x ∧ x ≤ 255 := fun x hx => HPB.out x (List.mem_of_mem_take hx)
  have R4 := Lib.hid hrq; have HY3 := Lib.hid hby3
  clear hrq hby3 HIB
  have HIDE := Lib.hid hib.1
  obtain ⟨-, hi0, hi1⟩ := hib
  generalize idFrom (bs.drop 2) = id at *
  simp only [Option.map_some, Addr.add_lit] at R4
  go_wp2_with fail
  refine (numberOfBytes_any _ _ _ _ _ R4.out (by omega) HY3.out).mono ?_
  rintro e w4 ⟨rfl, rfl⟩
  rw [HIDE.out]
  go_wp2_with fail
  refine (medlId_any id _ hi0 hi1).mono ?_
  rintro e w5 ⟨rfl, rfl⟩
  by_cases hid : id = 0
  · have hie : (id != 0) = false := by simp [hid]
    rw [hie]
    have HF := Lib.hid (HZ.out HNS.out hid)
    clear hid
    go_wp2_with fail
    go_ret2
    rw [HF.out]
    exact ⟨rfl, B3.out⟩
  · have hie : (id != 0) = true := by simp [hid]
    rw [hie]
    have HF := Lib.hid (H0.out HNS.out hid)
    clear hid
    go_wp2_with fail
    go_ret2
    rw [HF.out]
    exact ⟨rfl, B3.out⟩
set_option maxRecDepth 100000 in
set_option maxHeartbeats 4000000 in
theorem sIdOfImage_any (ao : Option Addr) (cap : Nat) (xs : List Int) (w : World) (hr : Rd w ao xs.length xs) (hn : xs.length ≤ 1048576) (hcap : xs.length ≤ cap) (hcap2 : cap ≤ 9223372036854775807) :
    Calls Try.prog 16 #[.slice ao xs.length cap] w fun e w' => e = .returned (.tuple #[.int .i64 (idOfImage xs).1, .int .i64 (idOfImage xs).2]) ∧ Below w.heap.size w w' := by
  have HIS := Lib.hid (fun W h => sIsBytes_any ao xs.length cap xs W h (by omega))
  have HR := Lib.hid hr
  rcases hb : isBytes xs with _ | _
  · rw [ioi_2 hb]
    rw [hb] at HIS
    clear hb
    generalize xs.length = n at *
    go_enter Try.func16, Try.ntmps16
    go_wp2_with fail
    refine (HIS.out _ HR.out).mono ?_
    rintro e w1 ⟨rfl, rfl⟩
    go_wp2_with fail
    go_ret2
    exact ⟨rfl, Below.refl _ _⟩
  have HDC := Lib.hid (fun W h => l09Damaged_any ao xs.length cap xs W h hb hcap hcap2)
  have HBA := Lib.hid (fun W h => l09Slice_any 0 ao xs.length cap xs W (by omega) h (isBytes_iff.1 hb).1 hcap hcap2)
  rw [hb] at HIS
  rw [dmgTo_all] at HDC
  have hx9 := (isBytes_iff.1 hb).1
  have hdl := dmg_len xs
  have hdh := dmg_has xs
  generalize (damaged9 xs).map (fun j : Nat => (j : Int)) = ds at HDC hdl hdh
  by_cases hd : 0 ∈ damaged9 xs
  · rw [ioi_7 hb hd]
    rw [decide_eq_true hd] at hdh
    have HDH := Lib.hid hdh
    clear hb HBA hd hdh
    generalize xs.length = n at *
    go_enter Try.func16, Try.ntmps16
    go_wp2_with fail
    refine (HIS.out _ HR.out).mono ?_
    rintro e w1 ⟨rfl, rfl⟩
    go_wp2_with fail
    refine (HDC.out _ HR.out).mono ?_
    rintro e w1 m1
    obtain ⟨p1, c1, rfl, -, r1, b1⟩ := m1.get
    have R1 := Lib.hid r1; have B1 := Lib.hid b1
    clear m1 r1 b1
    go_wp2_with fail
    refine (has01_any _ _ _ _ 0 _ R1.out (by omega)).mono ?_
    rintro e w2 ⟨rfl, rfl⟩
    rw [HDH.out]
    go_wp2_with fail
    go_ret2
    exact ⟨rfl, B1.out⟩
  rw [decide_eq_false hd] at hdh
  have HDH := Lib.hid hdh
  have H6 := Lib.hid (ioi_6 hb hd); have HZ := Lib.hid (ioi_z hb hd); have H0 := Lib.hid (ioi_0 hb hd)
  have hbb : ∀ x ∈ sliceOf xs 0, 0 ≤ x ∧ x ≤ 255 := fun x hx => (isBytes_iff.1 hb).2 x (by unfold sliceOf at hx; exact List.mem_of_mem_drop (List.mem_of_mem_take hx))
  have hib := id_bytes hbb
  have h33 := slice_len xs 0
  have h5 := (dmg_not hd).1
  generalize sliceOf xs 0 = bs at *
  have HIB := Lib.hid hib; have HBB := Lib.hid hbb
  clear hb hd hdh hbb hib
  generalize xs.length = n at *
  obtain ⟨bl, hbl⟩ : ∃ y, y = bs.length := ⟨_, rfl⟩
  have hbl9 : bl ≤ 33 := by omega
  have h5' : 5 ≤ bl := by omega
  clear h33 h5
  go_enter Try.func16, Try.ntmps16
  go_wp2_with fail
  refine (HIS.out _ HR.out).mono ?_
  rintro e w1 ⟨rfl, rfl⟩
  go_wp2_with fail
  refine (HDC.out _ HR.out).mono ?_
  rintro e w1 m1
  obtain ⟨p1, c1, rfl, -, r1, b1⟩ := m1.get
  have R1 := Lib.hid r1; have B1 := Lib.hid b1
  clear m1 r1 b1
  go_wp2_with fail
  refine (has01_any _ _ _ _ 0 _ R1.out (by omega)).mono ?_
  rintro e w2 ⟨rfl, rfl⟩
  rw [HDH.out]
  clear HDH R1 HIS
  go_wp2_with fail
  refine (HBA.out _ (HR.out.below B1.out)).mono ?_
  rintro e w3 ⟨a3, c3, rfl, r3, hc3, -, rfl⟩
  rw [← hbl] at r3 hc3 ⊢
  obtain ⟨b, off, rfl, hc⟩ := r3.here (by omega)
  have hc0 := hc 0 (by omega)
  rw [Nat.add_zero] at hc0
  have HC := Lib.hid hc
  clear hc r3 HBA HDC
  obtain ⟨h0, hh0⟩ : ∃ y, y = bs.getD 0 0 := ⟨_, rfl⟩
  rw [← hh0] at hc0
  have HH0 := Lib.hid hh0
  have HBL := Lib.hid hbl
  clear hh0 hbl
  by_cases h8 : bl < 8
  · have h8i : (bl : Int) < 8 := by omega
    have HF := Lib.hid (H6.out (.inl (by rw [← HBL.out]; exact h8)))
    go_wp2_with fail
    go_ret2
    rw [HF.out]
    exact ⟨rfl, B1.out⟩
  have h8i : ¬ (bl : Int) < 8 := by omega
  by_cases hz : h0 = 0
  rotate_left
  · have hne : (h0 != 0) = true := by simp [hz]
    have HF := Lib.hid (H6.out (.inr (by rw [← HH0.out]; exact hz)))
    clear hz
    go_wp2_with fail
    go_ret2
    rw [HF.out]
    exact ⟨rfl, B1.out⟩
  have hne : (h0 != 0) = false := by simp [hz]
  have HNS := Lib.hid (show ¬ (bs.length < 8 ∨ bs.getD 0 0 ≠ 0) from by rw [← HH0.out, ← HBL.out]; omega)
  have hib := HIB.out (by rw [← HBL.out]; omega)
  have hc2 := HC.out 2 (by omega); have hc3' := HC.out 3 (by omega); have hc4 := HC.out 4 (by omega)
  have hx2 := HBB.out _ (getD_mem' (xs := bs) (k := 2) (by rw [← HBL.out]; omega))
  have hx3 := HBB.out _ (getD_mem' (xs := bs) (k := 3) (by rw [← HBL.out]; omega))
  have hx4 := HBB.out _ (getD_mem' (xs := bs) (k := 4) (by rw [← HBL.out]; omega))
  have hide : idFrom (bs.drop 2) = bs.getD 2 0 * 65536 + bs.getD 3 0 * 256 + bs.getD 4 0 := by
    unfold idFrom
    simp only [List.getD, List.getElem?_drop]
  obtain ⟨-, hi0, hi1⟩ := hib
  generalize bs.getD 2 0 = x2 at *
  generalize bs.getD 3 0 = x3 at *
  generalize bs.getD 4 0 = x4 at *
  have hw1 : IntKind.i64.wrap (x2 * 65536) = x2 * 65536 := by rw [IntKind.wrap_i64]; omega
  have hw2 : IntKind.i64.wrap (x3 * 256) = x3 * 256 := by rw [IntKind.wrap_i64]; omega
  have hw3 : IntKind.i64.wrap (x2 * 65536 + x3 * 256) = x2 * 65536 + x3 * 256 := by rw [IntKind.wrap_i64]; omega
  have hw4 : IntKind.i64.wrap (x2 * 65536 + x3 * 256 + x4) = idFrom (bs.drop 2) := by rw [IntKind.wrap_i64, hide]; omega
  have HHI := Lib.hid hide
  clear hide hx2 hx3 hx4 HIB HBB HC hz
  generalize idFrom (bs.drop 2) = id at *
  by_cases hid : id = 0
  · have hie : (id == 0) = true := by simp [hid]
    have HF := Lib.hid (HZ.out HNS.out hid)
    clear hid
    go_wp2_with fail
    go_quiet (fail)
    go_wp2_with fail
    go_ret2
    rw [HF.out]
    exact ⟨rfl, below_drewN' B1.out _⟩
  · have hie : (id == 0) = false := by simp [hid]
    have HF := Lib.hid (H0.out HNS.out hid)
    clear hid
    go_wp2_with fail
    go_quiet (fail)
    go_wp2_with fail
    go_ret2
    rw [HF.out]
    exact ⟨rfl, below_drewN' B1.out _⟩
end Go.Proofs.Ytljdkckoelgkbaa
