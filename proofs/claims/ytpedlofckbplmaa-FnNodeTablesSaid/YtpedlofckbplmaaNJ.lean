/-
  Chapter 10: the model draws node tables and what is none.
-/
import Derived.Test.YtpedlofckbplmaaAp
import Derived.Test.YtpedlofckbplmaaL1
import Derived.Test.YtpedlofckbplmaaDec
import Derived.Test.YtpedlofckbplmaaDrawA
namespace Go.Proofs.Ytpedlofckbplmaa
open Go.RowKit

/-- What the drawn tables' entries are like. -/
def drNd (t : List Nd) : Prop := ∀ x ∈ t, (0 ≤ x.drift ∧ x.drift ≤ 1000) ∧ x.name.size ≤ 30
def shortN (t : List Nd) : Prop := ∀ x ∈ t, x.name.size ≤ 30
theorem shortN.small {t : List Nd} (h : shortN t) : smallN t := fun i hi => by have := h _ (ndOf_mem hi); omega
theorem drNd.okB {t : List Nd} (h : drNd t) (hl : t.length ≤ 100) : okB t := by
  have h1 := flat_le ndBytes 35 t (fun x hx => by have := (h x hx).2; rw [ndBytes_len]; omega)
  refine ⟨by unfold tabBytes; rw [List.length_append, List.length_singleton]; omega, fun i hi => ?_⟩
  have := (h _ (ndOf_mem hi)).1
  omega
theorem OwnN.src {E base p : Nat} {w w' : World} {v : Value} {t : List Nd} (h : OwnN E w base v t) (hg : w.grownBy w' (some p)) (hp : p < base) : OwnN E w' base v t := by
  refine h.only hg ?_
  cases hk : v.ownBlock with
  | none => exact .inl rfl
  | some k => exact .inr (fun e => by cases e; have := (h.block _ hk).1; omega)
/-- A draw of a table: of old memory only the source has been written. -/
def DrawnTab (P : List Nd → Prop) (w : World) (p : Nat) (e : Ending) (w' : World) : Prop :=
  ∃ v t, e = .returned v ∧ OwnN 59 w' w.heap.size v t ∧ P t ∧ Src 107 w' p ∧ w.grownBy w' (some p)
def nName (d : Nat) : ByteArray := { data := #[110] } ++ decStr d
theorem nName_size {d : Nat} (h : d < 18446744073709551616) : (nName d).size ≤ 21 := by
  have := decStr_size d h
  unfold nName
  rw [ByteArray.size_append, show ({ data := #[110] } : ByteArray).size = 1 from rfl]
  omega
set_option maxHeartbeats 2000000 in
set_option maxRecDepth 100000 in
theorem l10Draw_any (p : Nat) (w : World) (hs : Src 107 w p) : Calls Try.prog 54 #[.pointer (some ⟨p, 0, none⟩)] w (DrawnTab (fun t => 1 ≤ t.length ∧ t.length ≤ 4 ∧ drNd t) w p) := by
  have hp := hs.lt
  have ho0 : OwnN 59 (w.alloc (.cells #[] 59)) w.heap.size (.slice (some ⟨w.heap.size, 0, none⟩) 0 0) [] := OwnN.of_alloc_nil (Nat.le_refl _)
  have hb0 : Below w.heap.size w (w.alloc (.cells #[] 59)) := (Below.refl _ _).alloc (Nat.le_refl _) _
  have hs0 := hs.below hb0
  have HO0 := Lib.hid ho0; have HB0 := Lib.hid hb0; have HS0 := Lib.hid hs0; clear ho0 hb0 hs0 hs
  go_enter Try.func54, Try.ntmps54
  go_wp2_with fail
  refine (next_any _ _ _ HS0.out (by omega)).mono ?_
  rintro e w1 ⟨d, rfl, hd0, hd1, -, hs1, g1⟩
  have hd2 : d < 2 := hd1 (by omega)
  obtain ⟨d, rfl⟩ := Int.eq_ofNat_of_zero_le hd0
  have HO1 := Lib.hid (HO0.out.src g1 hp); have HS1 := Lib.hid hs1; have HG1 := Lib.hid (grown_trans (grown_of_below HB0.out) g1)
  clear hd0 hd1 hs1 g1
  go_wp2_with fail
  refine (next_any _ _ _ HS1.out (by omega)).mono ?_
  rintro e w2 ⟨n0, rfl, hn0, hn1, -, hs2, g2⟩
  have hn2 : n0 < 4 := hn1 (by omega)
  obtain ⟨n0, rfl⟩ := Int.eq_ofNat_of_zero_le hn0
  have HO2 := Lib.hid (HO1.out.src g2 hp); have HS2 := Lib.hid hs2; have HG2 := Lib.hid (grown_trans HG1.out g2)
  clear hn0 hn1 hs2 g2
  go_wp2_with fail
  go_loopw [3, 4, 5] (fun o i m wr => ∃ (k j : Nat) (t : List Nd), m = .int .i64 (k : Int) ∧ i = .int .i64 (j : Int) ∧ t.length + k = n0 + 1 ∧ j ≤ 1 + 3 * t.length ∧ Hid (drNd t) ∧ OwnN 59 wr w.heap.size o t ∧ Src 107 wr p ∧ w.grownBy wr (some p)) (fun _ _ m _ => (intOf m).toNat)
  case atStart => exact ⟨n0 + 1, d, [], by go_num, rfl, by simp, by simp; omega, (fun x hx => by cases hx), HO2.out, HS2.out, HG2.out⟩
  case round =>
    clear HO0 HB0 HS0 HO1 HS1 HG1 HO2 HS2 HG2
    obtain ⟨k, j, t, rfl, rfl, hk, hj, hdr, ho, hsr, hg⟩ := hrel
    have HO := Lib.hid ho; have HSR := Lib.hid hsr; have HG := Lib.hid hg; clear ho hsr hg
    by_cases hpos : 0 < k
    · obtain ⟨k, rfl⟩ : ∃ q, k = q + 1 := ⟨k - 1, by omega⟩
      have hkp : (0 : Int) < ((k + 1 : Nat) : Int) := by omega
      have hj2 : j ≤ 20 := by omega
      have hk2 : k ≤ 4 := by omega
      have htl : t.length ≤ 5 := by omega
      have hk3 : (t.length + 1) + k = n0 + 1 := by omega
      have hj3 : j + 3 ≤ 1 + 3 * (t.length + 1) := by omega
      have HK3 := Lib.hid hk3; have HJ3 := Lib.hid hj3; have HTL := Lib.hid htl
      obtain ⟨nm, hnme⟩ : ∃ nm, nm = ({ data := #[110] } : ByteArray) ++ decStr j := ⟨_, rfl⟩
      have hadd := fun W => by have h := run_string_add (P := Try.prog) W { data := #[110] } (decStr j) (by decide) (by have := decStr_size j (by omega); omega); rw [← hnme] at h; exact h
      have hnm : nm.size ≤ 21 := by rw [hnme]; exact nName_size (d := j) (by omega)
      have HNM := Lib.hid hnm
      clear hk hj hpos hnm hk3 hj3 htl hnme
      go_wp2_with fail
      refine (l01Dec_any j _ (by omega)).mono ?_
      rintro e w3 ⟨rfl, b3⟩
      have HO3 := Lib.hid (HO.out.below b3); have HS3 := Lib.hid (HSR.out.below b3); have HG3 := Lib.hid (grown_trans HG.out (grown_of_below b3)); clear b3 HO HSR HG
      go_wp2_with fail
      refine (next_any _ _ _ HS3.out (by omega)).mono ?_
      rintro e w4 ⟨f, rfl, hf0, hf1, -, hs4, g4⟩
      have hf2 : f < 200 := hf1 (by omega)
      have HO4 := Lib.hid (HO3.out.src g4 hp); have HS4 := Lib.hid hs4; have HG4 := Lib.hid (grown_trans HG3.out g4); clear hf1 hs4 g4 HO3 HS3 HG3
      go_wp2_with fail
      refine (next_any _ _ _ HS4.out (by omega)).mono ?_
      rintro e w5 ⟨y, rfl, hy0, -, -, hs5, g5⟩
      have HO5 := Lib.hid (HO4.out.src g5 hp); have HS5 := Lib.hid hs5; have HG5 := Lib.hid (grown_trans HG4.out g5); clear hy0 hs5 g5 HO4 HS4 HG4
      have hbl := fun X => (Below.refl w5.heap.size w5).alloc (Nat.le_refl _) X
      have HBL := Lib.hid hbl; clear hbl
      have hX : NdAt 59 (w5.alloc (.cells #[.int .i64 (j : Int), .string (nm), .int .i64 f, .bool (y == 0)] 59)) w5.heap.size ⟨(j : Int), nm, f, y == 0⟩ := NdAt.new (x := ⟨(j : Int), nm, f, y == 0⟩) w5
      have HX := Lib.hid hX; clear hX
      go_wp2_with (at_builtin; refine append_nd _ rfl (.tmp 16) (.tmp 27) rfl w.heap.size Try.underlying24 infoNd _ t rfl (HO5.out.below (HBL.out _)) _ ⟨(j : Int), nm, f, y == 0⟩ _ rfl HX.out.in_ (by have := HTL.out; omega) (by have := HG5.out.size; have := (HBL.out (.cells #[] 0)).size; simp; omega) ?_; intro v6 w6 o6 b6)
      have hb6 : Below w.heap.size w5 w6 := ((Below.refl _ _).alloc HG5.out.size _).trans b6
      have HO6 := Lib.hid o6; have HS6 := Lib.hid (HS5.out.belowB hb6 hp); have HG6 := Lib.hid (grown_step HG5.out hb6 (Nat.le_refl _)); clear o6 b6 hb6 HO5 HS5 HG5 HX HBL
      go_wp2_with fail
      refine (next_any _ _ _ HS6.out (by omega)).mono ?_
      rintro e w7 ⟨z, rfl, hz0, hz1, -, hs7, g7⟩
      have hz2 : z < 3 := hz1 (by omega)
      obtain ⟨z, rfl⟩ := Int.eq_ofNat_of_zero_le hz0
      have HO7 := Lib.hid (HO6.out.src g7 hp); have HS7 := Lib.hid hs7; have HG7 := Lib.hid (grown_trans HG6.out g7); clear hz0 hz1 hs7 g7 HO6 HS6 HG6
      have HDR := Lib.hid (show drNd (t ++ [⟨(j : Int), nm, f, y == 0⟩]) from fun x hx => by
        rcases List.mem_append.1 hx with hx | hx
        · exact hdr.out x hx
        · rw [List.mem_singleton] at hx; subst hx; exact ⟨⟨hf0, by simp only; omega⟩, by have := HNM.out; simp only; omega⟩)
      clear hf0 hf2
      go_wp2_with fail
      go_roundw
      case rel => exact ⟨k, j + 1 + z, t ++ [(⟨(j : Int), nm, f, y == 0⟩ : Nd)], by go_num, by go_num, by rw [List.length_append, List.length_singleton]; exact HK3.out, by rw [List.length_append, List.length_singleton]; have := HJ3.out; omega, HDR.out, HO7.out, HS7.out, HG7.out⟩
      case measure => simp [intOf]
    · have hk0 : k = 0 := by omega
      subst hk0
      have hl1 : 1 ≤ t.length := by omega
      have hl2 : t.length ≤ 4 := by omega
      go_wp2_with fail
      go_ret
      exact ⟨_, t, rfl, HO.out, ⟨hl1, hl2, hdr.out⟩, HSR.out, HG.out⟩
end Go.Proofs.Ytpedlofckbplmaa
