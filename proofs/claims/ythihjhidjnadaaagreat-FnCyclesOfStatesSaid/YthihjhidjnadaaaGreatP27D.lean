/-
  Contracts of the program's, the model's and the laws' functions, and plain mathematics, on which a proof of this claim stands (part D).
-/
import Derived.BigQuiet
import Derived.StillTailTactics
import Derived.Deep.RegionHeld3
import Derived.Deep.CutBlock
import Derived.Deep.DeepCutAuto
import Derived.Test.YthihjhidjnadaaaGreatP27E
import Derived.Test.YthihjhidjnadaaaGreatP27N
import Derived.Test.YthihjhidjnadaaaGreatP27A
import Derived.Test.YthihjhidjnadaaaGreatP27L
import Derived.Test.YthihjhidjnadaaaGreatP27C
namespace Go.Proofs.YthihjhidjnadaaaGreat
section
open Go.RowKit
def drNdI (t : List Nd) : Prop := ∀ x ∈ t, (0 ≤ x.drift ∧ x.drift ≤ 1000) ∧ x.name.size ≤ 30 ∧ (0 ≤ x.id ∧ x.id ≤ 31)
def idIn (t : List Nd) : Prop := ∀ i, i < t.length → 0 ≤ (ndOf t i).id ∧ (ndOf t i).id ≤ 31
theorem drNdI.ids {t : List Nd} (h : drNdI t) : idIn t := fun _ hi => (h _ (ndOf_mem hi)).2.2
theorem actTo_ltI {t : List Nd} (h : idIn t) : ∀ k, k ≤ t.length → actTo t k < 4294967296
  | 0, _ => by simp [actTo]
  | k + 1, hk => by
    have h1 := actTo_ltI h k (by omega)
    have h2 := h k hk
    rw [actTo]
    split
    · exact h1
    · exact setN_lt h1 (by omega)
theorem actTo_first {t : List Nd} (h0 : (ndOf t 0).pas = false) : ∀ k, (actTo t (k + 1)).testBit (ndOf t 0).id.toNat = true
  | 0 => by rw [act_act h0, setN_bit, if_pos rfl]
  | k + 1 => by
    have ih := actTo_first h0 k
    rw [actTo]
    split
    · exact ih
    · rw [setN_bit]
      split
      · rfl
      · exact ih
theorem members_first {t : List Nd} (h : idIn t) (hl : 1 ≤ t.length) (h0 : (ndOf t 0).pas = false) : 1 ≤ (membersOf ((actTo t t.length : Nat) : Int)).1.length := by
  have h1 := actTo_ltI h t.length (Nat.le_refl _)
  have h2 : (actTo t t.length).testBit (ndOf t 0).id.toNat = true := by
    obtain ⟨k, hk⟩ : ∃ k, t.length = k + 1 := ⟨t.length - 1, by omega⟩
    rw [hk]; exact actTo_first h0 k
  have h3 := h 0 hl
  have hv : isVec ((actTo t t.length : Nat) : Int) = true := by unfold isVec; exact inR_true (by omega) (by omega)
  unfold membersOf
  rw [if_pos hv, Int.toNat_natCast]
  have hm : (((ndOf t 0).id.toNat : Nat) : Int) ∈ nodesTo (actTo t t.length) 32 := by
    unfold nodesTo
    exact List.mem_map_of_mem (List.mem_filter.2 ⟨List.mem_range.2 (by omega), h2⟩)
  exact List.length_pos_of_mem hm
set_option maxHeartbeats 2000000 in
set_option maxRecDepth 100000 in
theorem l10DrawI_any (p : Nat) (w : World) (hs : Src 172 w p) : Calls Tryz.prog 191 #[.pointer (some ⟨p, 0, none⟩)] w (DrawnTab (fun t => 1 ≤ t.length ∧ t.length ≤ 4 ∧ drNdI t) w p) := by
  have hp := hs.lt
  have ho0 : OwnN 130 (w.alloc (.cells #[] 130)) w.heap.size (.slice (some ⟨w.heap.size, 0, none⟩) 0 0) [] := OwnN.of_alloc_nil (Nat.le_refl _)
  have hb0 : Below w.heap.size w (w.alloc (.cells #[] 130)) := (Below.refl _ _).alloc (Nat.le_refl _) _
  have hs0 := hs.below hb0
  have HO0 := Lib.hid ho0; have HB0 := Lib.hid hb0; have HS0 := Lib.hid hs0; clear ho0 hb0 hs0 hs
  go_enter Tryz.func191, Tryz.ntmps191
  go_wp2_with fail
  refine (next_any _ _ _ HS0.out (by omega)).mono ?_
  rintro e w1 ⟨d, rfl, hd0, hd1, -, hs1, g1⟩
  have hd2 : d < 2 := hd1 (by omega)
  obtain ⟨d, rfl⟩ := Int.eq_ofNat_of_zero_le hd0
  have HO1 := Lib.hid (HO0.out.src g1 hp); have HS1 := Lib.hid hs1; have HG1 := Lib.hid (grown_trans (grown_of_below HB0.out) g1)
  clear hd0 hd1 hs1 g1
  go_wp2_with fail
  refine (next_any _ _ _ HS1.out (by omega)).mono ?_
  rintro e w2 ⟨n0, rfl, hn0, hn1, -, hs2, g2⟩
  have hn2 : n0 < 4 := hn1 (by omega)
  obtain ⟨n0, rfl⟩ := Int.eq_ofNat_of_zero_le hn0
  have HO2 := Lib.hid (HO1.out.src g2 hp); have HS2 := Lib.hid hs2; have HG2 := Lib.hid (grown_trans HG1.out g2)
  clear hn0 hn1 hs2 g2
  go_wp2_with fail
  go_loopw [3, 4, 5] (fun o i m wr => ∃ (k j : Nat) (t : List Nd), m = .int .i64 (k : Int) ∧ i = .int .i64 (j : Int) ∧ t.length + k = n0 + 1 ∧ j ≤ 1 + 3 * t.length ∧ Hid (drNdI t) ∧ OwnN 130 wr w.heap.size o t ∧ Src 172 wr p ∧ w.grownBy wr (some p)) (fun _ _ m _ => (intOf m).toNat)
  case atStart => exact ⟨n0 + 1, d, [], by go_num, rfl, by simp, by simp; omega, (fun x hx => by cases hx), HO2.out, HS2.out, HG2.out⟩
  case round =>
    clear HO0 HB0 HS0 HO1 HS1 HG1 HO2 HS2 HG2
    obtain ⟨k, j, t, rfl, rfl, hk, hj, hdr, ho, hsr, hg⟩ := hrel
    have HO := Lib.hid ho; have HSR := Lib.hid hsr; have HG := Lib.hid hg; clear ho hsr hg
    by_cases hpos : 0 < k
    · obtain ⟨k, rfl⟩ : ∃ q, k = q + 1 := ⟨k - 1, by omega⟩
      have hkp : (0 : Int) < ((k + 1 : Nat) : Int) := by omega
      have hj2 : j ≤ 20 := by omega
      have hk2 : k ≤ 4 := by omega
      have htl : t.length ≤ 5 := by omega
      have hk3 : (t.length + 1) + k = n0 + 1 := by omega
      have hj3 : j + 3 ≤ 1 + 3 * (t.length + 1) := by omega
      have HK3 := Lib.hid hk3; have HJ3 := Lib.hid hj3; have HTL := Lib.hid htl
      obtain ⟨nm, hnme⟩ : ∃ nm, nm = ({ data := #[110] } : ByteArray) ++ decStr j := ⟨_, rfl⟩
      have hadd := fun W => by have h := run_string_add (P := Tryz.prog) W { data := #[110] } (decStr j) (by decide) (by have := decStr_size j (by omega); omega); rw [← hnme] at h; exact h
      have hnm : nm.size ≤ 21 := by rw [hnme]; exact nName_size (d := j) (by omega)
      have HNM := Lib.hid hnm
      clear hk hj hpos hnm hk3 hj3 htl hnme
      go_wp2_with fail
      refine (l01Dec_any j _ (by omega)).mono ?_
      rintro e w3 ⟨rfl, b3⟩
      have HO3 := Lib.hid (HO.out.below b3); have HS3 := Lib.hid (HSR.out.below b3); have HG3 := Lib.hid (grown_trans HG.out (grown_of_below b3)); clear b3 HO HSR HG
      go_wp2_with fail
      refine (next_any _ _ _ HS3.out (by omega)).mono ?_
      rintro e w4 ⟨f, rfl, hf0, hf1, -, hs4, g4⟩
      have hf2 : f < 200 := hf1 (by omega)
      have HO4 := Lib.hid (HO3.out.src g4 hp); have HS4 := Lib.hid hs4; have HG4 := Lib.hid (grown_trans HG3.out g4); clear hf1 hs4 g4 HO3 HS3 HG3
      go_wp2_with fail
      refine (next_any _ _ _ HS4.out (by omega)).mono ?_
      rintro e w5 ⟨y, rfl, hy0, -, -, hs5, g5⟩
      have HO5 := Lib.hid (HO4.out.src g5 hp); have HS5 := Lib.hid hs5; have HG5 := Lib.hid (grown_trans HG4.out g5); clear hy0 hs5 g5 HO4 HS4 HG4
      have hbl := fun X => (Below.refl w5.heap.size w5).alloc (Nat.le_refl _) X
      have HBL := Lib.hid hbl; clear hbl
      have hX : NdAt 130 (w5.alloc (.cells #[.int .i64 (j : Int), .string (nm), .int .i64 f, .bool (y == 0)] 130)) w5.heap.size ⟨(j : Int), nm, f, y == 0⟩ := NdAt.new (x := ⟨(j : Int), nm, f, y == 0⟩) w5
      have HX := Lib.hid hX; clear hX
      go_wp2_with (at_builtin; refine append_nd _ rfl (.tmp 16) (.tmp 27) rfl w.heap.size Tryz.underlying24 infoNd _ t rfl (HO5.out.below (HBL.out _)) _ ⟨(j : Int), nm, f, y == 0⟩ _ rfl HX.out.in_ (by have := HTL.out; omega) (by have := HG5.out.size; have := (HBL.out (.cells #[] 0)).size; simp; omega) ?_; intro v6 w6 o6 b6)
      have hb6 : Below w.heap.size w5 w6 := ((Below.refl _ _).alloc HG5.out.size _).trans b6
      have HO6 := Lib.hid o6; have HS6 := Lib.hid (HS5.out.belowB hb6 hp); have HG6 := Lib.hid (grown_step HG5.out hb6 (Nat.le_refl _)); clear o6 b6 hb6 HO5 HS5 HG5 HX HBL
      go_wp2_with fail
      refine (next_any _ _ _ HS6.out (by omega)).mono ?_
      rintro e w7 ⟨z, rfl, hz0, hz1, -, hs7, g7⟩
      have hz2 : z < 3 := hz1 (by omega)
      obtain ⟨z, rfl⟩ := Int.eq_ofNat_of_zero_le hz0
      have HO7 := Lib.hid (HO6.out.src g7 hp); have HS7 := Lib.hid hs7; have HG7 := Lib.hid (grown_trans HG6.out g7); clear hz0 hz1 hs7 g7 HO6 HS6 HG6
      have HDR := Lib.hid (show drNdI (t ++ [⟨(j : Int), nm, f, y == 0⟩]) from fun x hx => by
        rcases List.mem_append.1 hx with hx | hx
        · exact hdr.out x hx
        · rw [List.mem_singleton] at hx; subst hx; exact ⟨⟨hf0, by simp only; omega⟩, by have := HNM.out; simp only; omega, by simp only; omega⟩)
      clear hf0 hf2
      go_wp2_with fail
      go_roundw
      case rel => exact ⟨k, j + 1 + z, t ++ [(⟨(j : Int), nm, f, y == 0⟩ : Nd)], by go_num, by go_num, by rw [List.length_append, List.length_singleton]; exact HK3.out, by rw [List.length_append, List.length_singleton]; have := HJ3.out; omega, HDR.out, HO7.out, HS7.out, HG7.out⟩
      case measure => simp [intOf]
    · have hk0 : k = 0 := by omega
      subst hk0
      have hl1 : 1 ≤ t.length := by omega
      have hl2 : t.length ≤ 4 := by omega
      go_wp2_with fail
      go_ret
      exact ⟨_, t, rfl, HO.out, ⟨hl1, hl2, hdr.out⟩, HSR.out, HG.out⟩
set_option maxRecDepth 100000 in
set_option maxHeartbeats 4000000 in
theorem l10ActiveI_any (ao : Option Addr) (n cap : Nat) (t : List Nd) (w : World) (hr : RdN w ao n t) (hn : n ≤ 9223372036854775807) (ht : idIn t) :
    Calls Tryz.prog 126 #[.slice ao n cap] w fun e w' => e = .returned (.int .i64 (actTo t t.length : Nat)) ∧ w = w' := by
  have HR := Lib.hid hr
  have HL := Lib.hid hr.len
  have HT := Lib.hid ht
  clear hr ht
  go_enter Tryz.func126, Tryz.ntmps126
  go_wp2_with fail
  go_loopw [3, 4] (fun a i wr => ∃ k : Nat, k ≤ n ∧ i = .int .i64 k ∧ a = .int .i64 (actTo t k : Nat) ∧ wr = w) (fun _ i _ => n - (intOf i).toNat)
  case atStart => exact ⟨0, Nat.zero_le _, rfl, rfl, rfl⟩
  case round =>
    obtain ⟨k, hk, rfl, rfl, rfl⟩ := hrel
    by_cases hlt : k < n
    · obtain ⟨g, off, rfl, hg, hx⟩ := HR.out.at hlt
      have hid := HT.out k (by rw [HL.out]; exact hlt)
      have hal := actTo_ltI HT.out k (by rw [HL.out]; exact hk)
      have e1 := act_pas (t := t) (k := k)
      have e2 := act_act (t := t) (k := k)
      obtain ⟨a2, ha2⟩ : ∃ a2, a2 = actTo t (k + 1) := ⟨_, rfl⟩
      rw [← ha2] at e1 e2
      obtain ⟨x, hxe⟩ : ∃ x, x = ndOf t k := ⟨_, rfl⟩
      rw [← hxe] at hx hid e1 e2
      obtain ⟨a, ha⟩ : ∃ a, a = actTo t k := ⟨_, rfl⟩
      rw [← ha] at hal e1 e2 ⊢
      have HA2 := Lib.hid ha2; have E1 := Lib.hid e1; have E2 := Lib.hid e2; clear ha2 hxe ha e1 e2
      obtain ⟨xi, xn, xf, xp⟩ := x
      obtain ⟨h0, h1, h2, h3⟩ := hx
      dsimp only at *
      obtain ⟨q, rfl⟩ := Int.eq_ofNat_of_zero_le hid.1
      have hq : q < 32 := by omega
      clear hid
      rcases xp with _ | _
      · have HE := Lib.hid (E2.out rfl); clear E1 E2
        go_wp2_with (go_at_call 166; refine (l05Set_any _ _ _ _ hal hq).mono ?_; rintro e w2 ⟨rfl, rfl⟩)
        go_roundw
        case rel => exact ⟨k + 1, by omega, by go_num, by rw [← HA2.out, HE.out, Int.toNat_natCast], trivial⟩
        case measure => simp [intOf]; omega
      · have HE := Lib.hid (E1.out rfl); clear E1 E2
        go_wp2_with fail
        go_roundw
        case rel => exact ⟨k + 1, by omega, by go_num, by rw [← HA2.out, HE.out], trivial⟩
        case measure => simp [intOf]; omega
    · have hkn : k = n := by omega
      subst hkn
      go_wp2_with fail
      go_ret
      rw [HL.out]
      exact ⟨rfl, rfl⟩
end

section
open Go.RowKit
structure DrSt (w W : World) (p : Nat) (vn : Value) (t : List Nd) (va : Value) (xs : List Int) (vm : Value) (cs : List Mc) (ve : Value) (e : List Sl) : Prop where
  g : w.grownBy W (some p)
  s : Src 172 W p
  n : OwnN EN W w.heap.size vn t
  a : Own EI W w.heap.size va xs
  m : OwnM EM EI W w.heap.size vm cs
  e : OwnE ES W w.heap.size ve e
  r : MvAt 28 W w.heap.size Mv.zero
theorem row_old {W W' : World} {base E s n p : Nat} {v : Value} {c : List Value} (h : W.ownsRow base E s v n c) (g : W.grownBy W' (some p)) (hp : p < base) : W'.ownsRow base E s v n c :=
  World.ownsRow.kept h g (by
    cases hk : v.ownBlock with
    | none => exact .inl rfl
    | some k => exact .inr (fun e => by injection e with e; have := (World.ownsRow.lt h k hk).1; omega))
section
variable {w W W' : World} {p : Nat} {vn va vm ve vm' ve' : Value} {t : List Nd} {xs : List Int} {cs cs' : List Mc} {e e' : List Sl}
theorem DrSt.call (h : DrSt w W p vn t va xs vm cs ve e) (b : Below W.heap.size W W') : DrSt w W' p vn t va xs vm cs ve e :=
  ⟨grown_trans h.g (grown_of_below b), h.s.below b, h.n.below b, h.a.below b, h.m.below b, h.e.below b, h.r.below b h.r.lt⟩
theorem DrSt.draw (h : DrSt w W p vn t va xs vm cs ve e) (hp : p < w.heap.size) (s : Src 172 W' p) (g : W.grownBy W' (some p)) : DrSt w W' p vn t va xs vm cs ve e :=
  ⟨grown_trans h.g g, s, h.n.src g hp, h.a.src g hp, h.m.old g hp, h.e.old g hp, h.r.grown g (fun e => by injection e with e; omega)⟩
theorem DrSt.mode (h : DrSt w W p vn t va xs vm cs ve e) (hp : p < w.heap.size) (o : OwnM EM EI W' w.heap.size vm' cs') (g : W.grownBy W' vm.ownBlock) : DrSt w W' p vn t va xs vm' cs' ve e := by
  have hb : Below w.heap.size W W' := (Below.refl _ _).grown g h.g.size (fun k e => (h.m.block k e).1)
  exact ⟨grown_step h.g hb (Nat.le_refl _), h.s.belowB hb hp, h.n.only g (rows_or h.n h.m.row (by decide)), h.a.only g (rows_or h.a h.m.row (by decide)), o, h.e.only g (rows_or h.e h.m.row (by decide)),
    bx_at (World.ownsRow.kept (bx_of h.r (Nat.le_refl _)) g (rows_or (bx_of h.r (Nat.le_refl _)) h.m.row (by decide)))⟩
theorem DrSt.slot (h : DrSt w W p vn t va xs vm cs ve e) (hp : p < w.heap.size) (o : OwnE ES W' w.heap.size ve' e') (g : W.grownBy W' ve.ownBlock) : DrSt w W' p vn t va xs vm cs ve' e' := by
  have hb : Below w.heap.size W W' := (Below.refl _ _).grown g h.g.size (fun k e => (h.e.block k e).1)
  exact ⟨grown_step h.g hb (Nat.le_refl _), h.s.belowB hb hp, h.n.only g (rows_or h.n h.e (by decide)), h.a.only g (rows_or h.a h.e (by decide)),
    ⟨World.ownsRow.kept h.m.row g (rows_or h.m.row h.e (by decide)), fun c hc => (h.m.nx c hc).only g (rows_or (h.m.nx c hc) h.e (by decide)), h.m.apart⟩, o,
    bx_at (World.ownsRow.kept (bx_of h.r (Nat.le_refl _)) g (rows_or (bx_of h.r (Nat.le_refl _)) h.e (by decide)))⟩
end
structure DrIn (w W : World) (p : Nat) (vn : Value) (t : List Nd) (va : Value) (xs : List Int) (vm : Value) (cs : List Mc) (ve : Value) (e : List Sl) (X : Nat) (x : Mc) : Prop where
  st : DrSt w W p vn t va xs vm cs ve e
  b : W.ownsRow w.heap.size EM 3 (.slice (some ⟨X, 0, none⟩) 1 1) 1 (mcCells x)
structure DrLo (w W : World) (p : Nat) (vn : Value) (t : List Nd) (va : Value) (xs : List Int) (vm : Value) (cs : List Mc) (ve : Value) (e : List Sl) (X : Nat) (x : Mc) (vd : Value) (ds : List Int) : Prop where
  i : DrIn w W p vn t va xs vm cs ve e X x
  d : Own EI W w.heap.size vd ds
theorem box_of {W : World} {base X : Nat} {x : Mc} (h : McAt EM W X x) (hb : base ≤ X) : W.ownsRow base EM 3 (.slice (some ⟨X, 0, none⟩) 1 1) 1 (mcCells x) :=
  ⟨rfl, .inr ⟨X, 1, #[.int .i64 x.md.rounds, .int .i64 x.md.slots, .slice x.ao x.md.next.length x.cap], rfl, hb, h, Nat.le_refl _, by unfold maxLen; omega, rfl, rfl⟩⟩
section
variable {w W W' : World} {p X : Nat} {vn va vm ve ve' vd : Value} {t : List Nd} {xs ds : List Int} {cs : List Mc} {e e' : List Sl} {x : Mc}
theorem DrIn.in_ (h : DrIn w W p vn t va xs vm cs ve e X x) : McIn W X 0 x :=
  ⟨World.ownsRow.cellAt h.b 0 (by omega), World.ownsRow.cellAt h.b 1 (by omega), World.ownsRow.cellAt h.b 2 (by omega)⟩
theorem DrIn.call (h : DrIn w W p vn t va xs vm cs ve e X x) (b : Below W.heap.size W W') : DrIn w W' p vn t va xs vm cs ve e X x := ⟨h.st.call b, ownsRow_below h.b b⟩
theorem DrIn.draw (h : DrIn w W p vn t va xs vm cs ve e X x) (hp : p < w.heap.size) (s : Src 172 W' p) (g : W.grownBy W' (some p)) : DrIn w W' p vn t va xs vm cs ve e X x := ⟨h.st.draw hp s g, row_old h.b g hp⟩
theorem DrIn.slot (h : DrIn w W p vn t va xs vm cs ve e X x) (hp : p < w.heap.size) (o : OwnE ES W' w.heap.size ve' e') (g : W.grownBy W' ve.ownBlock) : DrIn w W' p vn t va xs vm cs ve' e' X x := ⟨h.st.slot hp o g, World.ownsRow.kept h.b g (rows_or h.b h.st.e (by decide))⟩
theorem DrLo.call (h : DrLo w W p vn t va xs vm cs ve e X x vd ds) (b : Below W.heap.size W W') : DrLo w W' p vn t va xs vm cs ve e X x vd ds := ⟨h.i.call b, h.d.below b⟩
theorem DrLo.draw (h : DrLo w W p vn t va xs vm cs ve e X x vd ds) (hp : p < w.heap.size) (s : Src 172 W' p) (g : W.grownBy W' (some p)) : DrLo w W' p vn t va xs vm cs ve e X x vd ds := ⟨h.i.draw hp s g, h.d.src g hp⟩
theorem DrLo.slot (h : DrLo w W p vn t va xs vm cs ve e X x vd ds) (hp : p < w.heap.size) (o : OwnE ES W' w.heap.size ve' e') (g : W.grownBy W' ve.ownBlock) : DrLo w W' p vn t va xs vm cs ve' e' X x vd ds := ⟨h.i.slot hp o g, h.d.only g (rows_or h.d h.i.st.e (by decide))⟩
end
section
variable {w W : World} {p : Nat} {vn va vm ve : Value} {t : List Nd} {xs : List Int} {cs : List Mc} {e : List Sl}
structure NewMode (w W : World) (p : Nat) (vn : Value) (t : List Nd) (va : Value) (xs : List Int) (vm : Value) (cs : List Mc) (ve : Value) (e : List Sl) (X : Nat) (x : Mc) : Prop where
  i : DrIn w W p vn t va xs vm cs ve e X x
  o : Own EI W w.heap.size x.v x.md.next
  fr : ∀ d ∈ cs, ∀ k, d.v.ownBlock = some k → x.v.ownBlock ≠ some k
  lt : ∀ k, vm.ownBlock = some k → k < X
theorem new_mode0 (h : DrSt w W p vn t va xs vm cs ve e) (a b : Int) : NewMode w (W.alloc (.cells #[.int .i64 a, .int .i64 b, .slice none 0 0] EM)) p vn t va xs vm cs ve e W.heap.size ⟨⟨a, b, []⟩, none, 0⟩ := by
  have bl : Below W.heap.size W (W.alloc (.cells #[.int .i64 a, .int .i64 b, .slice none 0 0] EM)) := (Below.refl _ _).alloc (Nat.le_refl _) _
  exact ⟨⟨h.call bl, box_of (McAt.new (c := ⟨⟨a, b, []⟩, none, 0⟩) W) h.g.size⟩, World.ownsRow_nil _ _ _ _, fun _ _ _ _ e => (by cases e), fun k e => (h.m.block k e).2⟩
theorem new_mode1 (h : DrSt w W p vn t va xs vm cs ve e) (a b c : Int) : NewMode w ((W.alloc (.cells #[.int .i64 a, .int .i64 b, .slice (some ⟨W.heap.size + 1, 0, none⟩) 1 1] EM)).alloc (.cells #[.int .i64 c] EI)) p vn t va xs vm cs ve e W.heap.size ⟨⟨a, b, [c]⟩, some ⟨W.heap.size + 1, 0, none⟩, 1⟩ := by
  have bl : Below W.heap.size W (W.alloc (.cells #[.int .i64 a, .int .i64 b, .slice (some ⟨W.heap.size + 1, 0, none⟩) 1 1] EM)) := (Below.refl _ _).alloc (Nat.le_refl _) _
  have hm := McAt.new (T := EM) (c := ⟨⟨a, b, [c]⟩, some ⟨W.heap.size + 1, 0, none⟩, 1⟩) W
  have hz : (W.alloc (.cells #[.int .i64 a, .int .i64 b, .slice (some ⟨W.heap.size + 1, 0, none⟩) 1 1] EM)).heap.size = W.heap.size + 1 := World.size_alloc ..
  change McAt EM (W.alloc (.cells #[.int .i64 a, .int .i64 b, .slice (some ⟨W.heap.size + 1, 0, none⟩) 1 1] EM)) W.heap.size _ at hm
  generalize W.alloc (.cells #[.int .i64 a, .int .i64 b, .slice (some ⟨W.heap.size + 1, 0, none⟩) 1 1] EM) = W1 at bl hm hz ⊢
  have b2 : Below W1.heap.size W1 (W1.alloc (.cells #[.int .i64 c] EI)) := (Below.refl _ _).alloc (Nat.le_refl _) _
  have hg := h.g.size
  have o : Own EI (W1.alloc (.cells #[.int .i64 c] EI)) w.heap.size (.slice (some ⟨W1.heap.size, 0, none⟩) 1 1) [c] := Own.of_alloc_one c (by omega)
  rw [hz] at o
  refine ⟨⟨(h.call bl).call b2, ownsRow_below (box_of hm hg) b2⟩, o, fun d hd k hk e2 => ?_, fun k e => (h.m.block k e).2⟩
  have e3 : some (W.heap.size + 1) = some k := e2
  injection e3 with e3
  have := ((h.m.nx d hd).block k hk).2
  omega
end
section
variable {P : Program} {E T : Nat} (w : World) {ops : Array Oper} {rest : List Oper} {o : Oper} {a : Act} {Q : Exit → Act → World → Prop}
theorem append_slx (hgd : o.guard = none) (s x : Operand)
    (ho : o.op = .call { callee := .builtin .append, args := #[s, x], argTypes := #[T, T] })
    (base : Nat) (ht : P.underlying T = some (.slice E)) (hi : InfoSl P E)
    (v : Value) (t : List Sl) (hs : a.eval s = v) (hown : OwnE E w base v t) (b off : Nat) (y : Sl) (c : Nat) (hx : a.eval x = .slice (some ⟨b, off, none⟩) 1 c) (hc : SlIn w b off y)
    (hlen : t.length ≤ 1073741824) (hbase : base ≤ w.heap.size)
    (h : ∀ v' w', OwnE E w' base v' (t ++ [y]) → w.grownBy w' v.ownBlock → wpList P ops Q rest (a.put o.dst v') w') : wpList P ops Q (o :: rest) a w :=
  wpList_plain hgd fun _ hK => app_sl w s x ho base ht hi v t hs hown b off y c hx hc hlen hbase fun v' w' h1 h2 => hK _ _ (h v' w' h1 h2)
end
theorem Own.cell {E base g cap i : Nat} {w : World} {xs : List Int} (h : Own E w base (.slice (some ⟨g, 0, none⟩) xs.length cap) xs) (hi : i < xs.length) : ∃ y, w.cell? ⟨g, i, none⟩ = some (.int .i64 y) := by
  unfold Own at h
  exact ⟨xs[i], by rw [World.ownsRow.cellAt (n := xs.length) (size := 1) h i (by omega), List.getElem?_map, List.getElem?_eq_getElem hi]; rfl⟩
theorem Own.some_ {E base n cap : Nat} {w : World} {ao : Option Addr} {xs : List Int} (h : Own E w base (.slice ao n cap) xs) (hl : 1 ≤ xs.length) : ∃ g, ao = some ⟨g, 0, none⟩ ∧ g < w.heap.size := by
  unfold Own at h
  have hb := World.ownsRow.lt h
  rcases h.2 with ⟨-, e2⟩ | ⟨g', cap', cur, e, -⟩
  · omega
  · cases e; exact ⟨g', rfl, (hb g' rfl).2⟩
end

section
open Go.RowKit
theorem flatN_take (t : List Nd) : ∀ k, (t.flatMap ndCells).take (k * 4) = (t.take k).flatMap ndCells := by
  induction t with
  | nil => intro k; simp
  | cons a r ih =>
    intro k
    cases k with
    | zero => simp
    | succ k =>
      rw [List.flatMap_cons, List.take_succ_cons, List.flatMap_cons, ← ih k, show (k + 1) * 4 = (ndCells a).length + k * 4 from by simp [ndCells]; omega, List.take_length_add_append]
theorem OwnN.takeS {E base g n cap k : Nat} {w : World} {t : List Nd} (h : OwnN E w base (.slice (some ⟨g, 0, none⟩) n cap) t) (hk : k ≤ t.length) : OwnN E w base (.slice (some ⟨g, 0, none⟩) k cap) (t.take k) := by
  have hl : (t.take k).length = k := by rw [List.length_take]; omega
  unfold OwnN at h ⊢
  rw [hl]
  refine ⟨by rw [flatN_len, hl], ?_⟩
  rcases h.2 with ⟨e, -⟩ | ⟨g', cap', cur, e, hb, hg, hn, hcap, hsz, ht⟩
  · cases e
  · simp only [Value.slice.injEq, Option.some.injEq, Addr.mk.injEq] at e
    obtain ⟨⟨rfl, -, -⟩, -, rfl⟩ := e
    refine .inr ⟨g, cap, cur, rfl, hb, hg, by omega, hcap, hsz, ?_⟩
    rw [← flatN_take, ← ht, List.take_take, Nat.min_eq_left (by omega)]
def DrawnMe (P : Mv → Prop) (w : World) (p : Nat) (e : Ending) (w' : World) : Prop :=
  ∃ v, e = .returned (mvVal v) ∧ OwnMe w' w.heap.size v ∧ P v ∧ Src 172 w' p ∧ w.grownBy w' (some p)
def okSl (x : Sl) : Prop := (0 ≤ x.mode ∧ x.mode ≤ 15) ∧ (0 ≤ x.round ∧ x.round ≤ 15) ∧ (0 ≤ x.slot ∧ x.slot ≤ 255) ∧ descIn x.desc ∧ (0 ≤ x.desc.node ∧ x.desc.node ≤ 31)
def okMd (d : Md) : Prop := (0 ≤ d.rounds ∧ d.rounds ≤ 255) ∧ (0 ≤ d.slots ∧ d.slots ≤ 255) ∧ d.next.length ≤ 1 ∧ ∀ j ∈ d.next, 0 ≤ j ∧ j ≤ 255
structure DrMv (v : Mv) : Prop where
  id : 0 ≤ v.id ∧ v.id ≤ 16777215
  e0 : 1 ≤ v.e.length
  e1 : v.e.length ≤ 200
  n1 : 1 ≤ v.n.length
  n : v.n.length ≤ 4
  nm : drNdI v.n
  c0 : 1 ≤ v.cs.length
  c1 : v.cs.length ≤ 2
  md : ∀ d ∈ v.cs, okMd d.md
  sl : ∀ x ∈ v.e, okSl x
theorem drMv_small {v : Mv} (h : v.me = smallMe) : DrMv v := by
  obtain ⟨i, n, no, nc, cs, mo, mc, e, eo, ec⟩ := v
  simp only [Mv.me, smallMe, Me.mk.injEq] at h
  obtain ⟨rfl, rfl, hc, rfl⟩ := h
  have hl : cs.length = 2 := by rw [← mds_len cs, hc]; rfl
  refine ⟨by simp, by simp, by simp, by simp, by simp, ?_, by simp only; omega, by simp only; omega, ?_, ?_⟩
  · intro x hx
    simp only [List.mem_cons, List.not_mem_nil, or_false] at hx
    rcases hx with rfl | rfl <;> exact ⟨by decide, by decide, by decide⟩
  · intro d hd
    have : d.md ∈ mds cs := List.mem_map_of_mem hd
    rw [hc] at this
    simp only [List.mem_cons, List.not_mem_nil, or_false] at this
    rcases this with e | e <;> rw [e] <;> exact ⟨by decide, by decide, by decide, by decide⟩
  · intro x hx
    simp only [List.mem_cons, List.not_mem_nil, or_false] at hx
    rcases hx with rfl | rfl | rfl | rfl | rfl | rfl <;> exact ⟨by decide, by decide, by decide, ⟨by decide, by decide, by decide⟩, by decide⟩
theorem Own.cellD {E base g cap i : Nat} {w : World} {xs : List Int} (h : Own E w base (.slice (some ⟨g, 0, none⟩) xs.length cap) xs) (hi : i < xs.length) : w.cell? ⟨g, i, none⟩ = some (.int .i64 (xs.getD i 0)) := by
  unfold Own at h
  rw [World.ownsRow.cellAt (n := xs.length) (size := 1) h i (by omega), List.getElem?_map, List.getElem?_eq_getElem hi]
  simp [List.getD, List.getElem?_eq_getElem hi]
theorem members_in (v : Int) : ∀ x ∈ (membersOf v).1, 0 ≤ x ∧ x ≤ 31 := by
  unfold membersOf
  split
  · intro x hx
    unfold nodesTo at hx
    obtain ⟨k, hk, rfl⟩ := List.mem_map.1 hx
    have := List.mem_range.1 (List.mem_filter.1 hk).1
    omega
  · intro x hx; cases hx
theorem drNdI_set {t : List Nd} (h : drNdI t) (hl : 1 ≤ t.length) : drNdI (t.set 0 ⟨(ndOf t 0).id, (ndOf t 0).name, (ndOf t 0).drift, false⟩) := fun x hx => by
  rcases List.mem_or_eq_of_mem_set hx with hx | rfl
  · exact h x hx
  · exact h (ndOf t 0) (ndOf_mem hl)
set_option maxRecDepth 100000 in
set_option maxHeartbeats 8000000 in
theorem l13Draw_any (p : Nat) (w : World) (hs : Src 172 w p) : Calls Tryz.prog 160 #[.pointer (some ⟨p, 0, none⟩)] w (DrawnMe DrMv w p) := by
  have hp := hs.lt
  have hb0 : Below w.heap.size w (w.alloc (.cells #[.int .i64 0, .slice none 0 0, .slice none 0 0, .slice none 0 0] 28)) := (Below.refl _ _).alloc (Nat.le_refl _) _
  have HR0 := Lib.hid (show MvAt 28 (w.alloc (.cells #[.int .i64 0, .slice none 0 0, .slice none 0 0, .slice none 0 0] 28)) w.heap.size Mv.zero from MvAt.new (v := Mv.zero) w)
  have HS0 := Lib.hid (hs.below hb0); have HG0 := Lib.hid (grown_of_below (g := some p) hb0)
  clear hs hb0
  go_enter Tryz.func160, Tryz.ntmps160
  go_upto_region 1 with fail
  generalize w.alloc (.cells #[.int .i64 0, .slice none 0 0, .slice none 0 0, .slice none 0 0] 28) = w1 at HR0 HS0 HG0 ⊢
  go_wp2_with fail
  refine (next_any _ _ _ HS0.out (by omega)).mono ?_
  rintro e w2 ⟨x, rfl, -, -, -, hs2, g2⟩
  have HR2 := Lib.hid (HR0.out.grown g2 (fun e => by injection e with e; omega)); have HS2 := Lib.hid hs2; have HG2 := Lib.hid (grown_trans HG0.out g2)
  clear hs2 g2 HR0 HS0 HG0
  by_cases hx : x = 0
  · subst hx
    go_wp2_with fail
    refine (ssmall_any _).mono ?_
    rintro e w3 ⟨v, hv, rfl, o3, b3⟩
    have HR3 := Lib.hid (HR2.out.below b3 HR2.out.lt); have HS3 := Lib.hid (HS2.out.below b3); have HG3 := Lib.hid (grown_trans HG2.out (grown_of_below b3))
    have HO3 := Lib.hid (o3.more HG2.out.size)
    have HD := Lib.hid (drMv_small hv)
    clear HR2 HS2 HG2 b3 o3 hv
    obtain ⟨q0, q1, q2, q3⟩ := HR3.out.all
    have f0 := HR3.out.f 0; have f1 := HR3.out.f 1; have f2 := HR3.out.f 2; have f3 := HR3.out.f 3
    unfold mvVal
    go_wp2_with fail
    change bodyPost _ _ _ _ _ (setMv w3 w.heap.size v)
    have bz := below_setMv (B := w.heap.size) (w := w3) (Nat.le_refl _) v
    have HZ := Lib.hid (HR3.out.put v)
    have HOZ := Lib.hid (HO3.out.other HR3.out (grown_setMv w3 w.heap.size v))
    have HSZ := Lib.hid (HS3.out.belowB bz hp); have HGZ := Lib.hid (grown_step HG3.out bz (Nat.le_refl _))
    clear q0 q1 q2 q3 f0 f1 f2 f3 bz
    generalize setMv w3 w.heap.size v = wz at HZ HOZ HSZ HGZ ⊢
    obtain ⟨e0, e1, e2, e3⟩ := HZ.out.all
    exact bodyPost_ret (v := mvVal v) (by simp [mvVal, results, Tryz.results160, go_sem, e0, e1, e2, e3]) rfl ⟨v, rfl, HOZ.out, HD.out, HSZ.out, HGZ.out⟩
  have hxb : (x == 0) = false := by simp [hx]
  clear hx
  go_wp2_with fail
  refine (l10DrawI_any _ _ HS2.out).mono ?_
  rintro e w3 ⟨v, t, rfl, o3, ⟨hl1, hl2, hdr⟩, hs3, g3⟩
  obtain ⟨ao, cap, rfl, r1, hcap, hmax, hcase⟩ := o3.form
  have hg : ∃ g, ao = some ⟨g, 0, none⟩ := by
    rcases hcase with h | ⟨g, h, -⟩
    · simp only [Value.slice.injEq] at h; omega
    · exact ⟨g, h⟩
  obtain ⟨g, rfl⟩ := hg
  obtain ⟨n, hn⟩ : ∃ n, n = t.length := ⟨_, rfl⟩
  rw [← hn] at o3 hl1 hl2 hcap ⊢
  have hcm : cap ≤ 9223372036854775807 := by unfold maxLen at hmax; omega
  have HO3 := Lib.hid (o3.more HG2.out.size); have HS3 := Lib.hid hs3; have HG3 := Lib.hid (grown_trans HG2.out g3)
  have HR3 := Lib.hid (HR2.out.grown g3 (fun e => by injection e with e; omega))
  clear o3 hs3 g3 r1 hcase hmax HR2 HS2 HG2
  have hin := (HO3.out.store (k := 0) hn.symm (by omega) Nd.zero).1
  have HD := Lib.hid (drNdI_set hdr (by omega)); have HPAS := Lib.hid (show (ndOf (t.set 0 ⟨(ndOf t 0).id, (ndOf t 0).name, (ndOf t 0).drift, false⟩) 0).pas = false from by rw [show ndOf (t.set 0 ⟨(ndOf t 0).id, (ndOf t 0).name, (ndOf t 0).drift, false⟩) 0 = ⟨(ndOf t 0).id, (ndOf t 0).name, (ndOf t 0).drift, false⟩ from by simp [ndOf, List.getD, List.getElem?_set_self (show 0 < t.length by omega)]])
  obtain ⟨f0, o4, b4⟩ := HO3.out.field (k := 0) (j := 3) (u := .bool false) (y := ⟨(ndOf t 0).id, (ndOf t 0).name, (ndOf t 0).drift, false⟩) hn.symm (by omega) (by omega) rfl
  have HL := Lib.hid (show (t.set 0 ⟨(ndOf t 0).id, (ndOf t 0).name, (ndOf t 0).drift, false⟩).length = n from by rw [List.length_set]; exact hn.symm)
  have bb := (HO3.out.block g rfl).1
  have HR4 := Lib.hid (bx_at (World.ownsRow.kept (bx_of HR3.out (Nat.le_refl _)) (grown_set w3 g (0 * 4 + 3) (.bool false)) (rows_or (bx_of HR3.out (Nat.le_refl _)) HO3.out (by decide))))
  generalize t.set 0 ⟨(ndOf t 0).id, (ndOf t 0).name, (ndOf t 0).drift, false⟩ = t4 at o4 HD HPAS HL
  generalize ndOf t 0 = x0 at hin
  obtain ⟨c0, c1, c2, c3⟩ := hin
  have HO4 := Lib.hid o4; have HS4 := Lib.hid (HS3.out.belowB b4 hp); have HG4 := Lib.hid (grown_step HG3.out b4 (Nat.le_refl _))
  have hn0 : (0 : Int) < (n : Int) := by omega
  have hc0 : (0 : Int) < (cap : Int) := by omega
  have hn1 : ((n : Nat) : Int) ≤ 4 := by omega
  clear hdr o4 b4 HO3 HS3 HG3 HR3 hn bb
  simp only [Nat.zero_mul, Nat.zero_add] at f0 c3 HO4 HS4 HG4 HR4
  go_upto_region 5 with fail
  generalize w3.setCell ⟨g, 3, none⟩ (.bool false) = w4 at HO4 HS4 HG4 HR4 ⊢
  go_upto_if 27 with fail
  go_cut [3] (fun s3 wx => ∃ wy, wy = wx ∧ ∃ (N5 : Nat) (t5 : List Nd), s3 = .slice (some ⟨g, 0, none⟩) N5 cap ∧ (1 ≤ N5 ∧ N5 ≤ 4) ∧ t5.length = N5 ∧ w4 = wy ∧ Hid (OwnN EN wy w.heap.size (.slice (some ⟨g, 0, none⟩) N5 cap) t5) ∧ Hid (drNdI t5) ∧ Hid ((ndOf t5 0).pas = false))
  case first =>
    by_cases h3 : 3 < (n : Int)
    · have HO5 := Lib.hid (show OwnN EN w4 w.heap.size (.slice (some ⟨g, 0, none⟩) 3 cap) (t4.take 3) from HO4.out.takeS (by rw [HL.out]; omega))
      have HD5 := Lib.hid (show drNdI (t4.take 3) from fun x hx => HD.out x (List.mem_of_mem_take hx))
      have HP5 := Lib.hid (show (ndOf (t4.take 3) 0).pas = false from by rw [ndOf_take (by omega)]; exact HPAS.out)
      have hl5 : (t4.take 3).length = 3 := by rw [List.length_take, HL.out]; omega
      have h3c : (3 : Int) ≤ (cap : Int) := by omega
      clear HR4 HS4 HG4 HO4 HD HPAS c0 c1 c2 c3 f0
      generalize t4.take 3 = t5 at HO5 HD5 HP5 hl5
      go_wp2_with fail
      go_meet
      exact ⟨_, rfl, 3, t5, rfl, ⟨by omega, by omega⟩, hl5, rfl, HO5, HD5, HP5⟩
    · have hl4 := HL.out
      clear HR4 HS4 HG4 c0 c1 c2 c3 f0
      go_wp2_with fail
      go_meet
      exact ⟨_, rfl, n, t4, rfl, ⟨by omega, by omega⟩, hl4, rfl, HO4, HD, HPAS⟩
  case rest =>
  obtain ⟨wx, rfl, N5, t5, rfl, ⟨hN1, hN2⟩, hl5, rfl, HO5, HD5, HP5⟩ := hcut
  clear HD HPAS HL HO4 c0 c1 c2 c3 f0
  have hr5 : RdN w4 (some ⟨g, 0, none⟩) N5 t5 := by
    obtain ⟨ao, cap', e, -, r⟩ := HO5.out.get
    rw [hl5] at e r
    cases e; exact r
  have hm1 := members_first HD5.out.ids (by omega) HP5.out
  rw [hl5] at hm1
  have hm3 := members_in ((actTo t5 N5 : Nat) : Int)
  replace hm1 := Lib.hid hm1; replace hm3 := Lib.hid hm3; have hm2 := Lib.hid (membersOf_len ((actTo t5 N5 : Nat) : Int))
  go_wp2_with fail
  refine (l10ActiveI_any _ _ _ _ _ hr5 (by omega) HD5.out.ids).mono ?_
  rintro e w5 ⟨rfl, rfl⟩
  clear hr5
  go_wp2_with fail
  refine (sMembersOf_any _ _).mono ?_
  rintro e w6 m6
  generalize (membersOf ((actTo t5 N5 : Nat) : Int)).1 = xs at m6 hm1 hm2 hm3
  generalize (membersOf ((actTo t5 N5 : Nat) : Int)).2 = xc at m6
  obtain ⟨pa, ca, rfl, oa, -, ba⟩ := m6.get
  have HX1 := hm1; have HX2 := hm2; have HX3 := hm3
  have HR6 := Lib.hid (HR4.out.below ba HR4.out.lt); have HS6 := Lib.hid (HS4.out.below ba); have HG6 := Lib.hid (grown_trans HG4.out (grown_of_below (g := some p) ba)); have HN6 := Lib.hid (HO5.out.below ba)
  have HA6 := Lib.hid (oa.more HG4.out.size)
  clear hm1 hm2 hm3 oa ba m6 HR4 HS4 HG4 HO5
  have HD0 := Lib.hid (fun (X : World) (hX : X = (w6.alloc (.cells #[] EM)).alloc (.cells #[] ES)) => (show DrSt w X p (.slice (some ⟨g, 0, none⟩) N5 cap) t5 (.slice pa xs.length ca) xs (.slice (some ⟨w6.heap.size, 0, none⟩) 0 0) [] (.slice (some ⟨w6.heap.size + 1, 0, none⟩) 0 0) [] from by
    subst hX
    have b7 : Below w6.heap.size w6 (w6.alloc (.cells #[] EM)) := (Below.refl _ _).alloc (Nat.le_refl _) _
    have z7 : (w6.alloc (.cells #[] EM)).heap.size = w6.heap.size + 1 := World.size_alloc ..
    have b8 : Below (w6.alloc (.cells #[] EM)).heap.size (w6.alloc (.cells #[] EM)) ((w6.alloc (.cells #[] EM)).alloc (.cells #[] ES)) := (Below.refl _ _).alloc (Nat.le_refl _) _
    have om : OwnM EM EI (w6.alloc (.cells #[] EM)) w.heap.size (.slice (some ⟨w6.heap.size, 0, none⟩) 0 0) [] := OwnM.of_alloc_nil HG6.out.size
    have oe : OwnE ES ((w6.alloc (.cells #[] EM)).alloc (.cells #[] ES)) w.heap.size (.slice (some ⟨(w6.alloc (.cells #[] EM)).heap.size, 0, none⟩) 0 0) [] := OwnE.of_alloc_nil (by rw [z7]; have := HG6.out.size; omega)
    rw [z7] at oe
    exact ⟨grown_trans (grown_trans HG6.out (grown_of_below b7)) (grown_of_below b8), (HS6.out.below b7).below b8, (HN6.out.below b7).below b8, (HA6.out.below b7).below b8, om.below b8, oe, (HR6.out.below b7 HR6.out.lt).below b8 (by rw [z7]; have := HR6.out.lt; omega)⟩))
  clear HR6 HS6 HG6 HN6 HA6
  go_upto_region 10 with fail
  replace HD0 := Lib.hid (HD0.out _ rfl)
  generalize (w6.alloc (.cells #[] EM)).alloc (.cells #[] ES) = w8 at HD0 ⊢
  generalize w6.heap.size = B6 at HD0 ⊢
  go_wp2_with fail
  refine (next_any _ _ _ HD0.out.s (by omega)).mono ?_
  rintro e w9 ⟨c, rfl, hc0', hc1', -, hs9, g9⟩
  have hc2 : c < 2 := hc1' (by omega)
  obtain ⟨c, rfl⟩ := Int.eq_ofNat_of_zero_le hc0'
  have HD9 := Lib.hid (HD0.out.draw hp hs9 g9)
  clear hc0' hc1' hs9 g9 HD0
  go_wp2_with fail
  have hxl1 := HX1.out; have hxl2 := HX2.out
  obtain ⟨ga, hga, -⟩ := HD9.out.a.some_ hxl1
  subst hga
  go_loopw [6, 7, 9] (fun M E I wr => ∃ (k : Nat) (cs : List Mc) (e : List Sl) (vm ve : Value), vm = M ∧ ve = E ∧ I = .int .i64 (k : Int) ∧ k ≤ c + 1 ∧ cs.length = k ∧ Hid (∀ d ∈ cs, okMd d.md) ∧ Hid (∀ x ∈ e, okSl x) ∧ (k ≤ e.length ∧ e.length ≤ 66 * k) ∧ DrSt w wr p (.slice (some ⟨g, 0, none⟩) N5 cap) t5 (.slice (some ⟨ga, 0, none⟩) xs.length ca) xs vm cs ve e) (fun _ _ I _ => c + 1 - (intOf I).toNat)
  case atStart => exact ⟨0, [], [], _, _, rfl, rfl, rfl, by omega, rfl, (fun _ h => by cases h), (fun _ h => by cases h), ⟨by simp, by simp⟩, HD9.out⟩
  case round =>
    clear HD9 HX1 HX2
    obtain ⟨k, cs, e, vm, ve, rfl, rfl, rfl, hk, hl, hsm, hse, ⟨he1, he2⟩, hd⟩ := hrel
    obtain ⟨wo, hwo⟩ : ∃ wo, wo = wr := ⟨_, rfl⟩
    subst hwo
    have HDo := Lib.hid hd; clear hd
    by_cases hkc : k < c + 1
    · have hki : (k : Int) < 1 + (c : Int) := by omega
      go_wp2_with fail
      refine (next_any _ _ _ HDo.out.s (by omega)).mono ?_
      rintro e1 wa ⟨r, rfl, hr0, hr1, -, hsa, ga'⟩
      have hr2 : r < 2 := hr1 (by omega)
      obtain ⟨r, rfl⟩ := Int.eq_ofNat_of_zero_le hr0
      have HDa := Lib.hid (HDo.out.draw hp hsa ga')
      clear hr0 hr1 hsa ga' HDo
      go_wp2_with fail
      refine (next_any _ _ _ HDa.out.s (by omega)).mono ?_
      rintro e2 wb ⟨s, rfl, hs0, hs1, -, hsb, gb⟩
      have hs2 : s < 2 := hs1 (by omega)
      obtain ⟨s, rfl⟩ := Int.eq_ofNat_of_zero_le hs0
      have HDb := Lib.hid (HDa.out.draw hp hsb gb)
      clear hs0 hs1 hsb gb HDa
      go_upto_if 56 with fail
      generalize hXB : wb.heap.size = X at *
      go_cut [] from 41 to 120 (fun wx => ∃ wy, wy = wx ∧ ∃ x : Mc, Hid (NewMode w wy p (.slice (some ⟨g, 0, none⟩) N5 cap) t5 (.slice (some ⟨ga, 0, none⟩) xs.length ca) xs vm cs ve e X x) ∧ Hid (okMd x.md) ∧ x.md.rounds = 1 + (r : Int) ∧ x.md.slots = (xs.length : Int) + (s : Int))
      case first =>
        by_cases hc1 : c = 0
        · subst hc1
          have HNM := Lib.hid (new_mode0 HDb.out (1 + (r : Int)) ((xs.length : Int) + (s : Int)))
          rw [hXB] at HNM
          clear HDb
          go_wp2_with fail
          go_meet
          exact ⟨_, rfl, _, HNM, (Lib.hid (show okMd ⟨1 + (r : Int), (xs.length : Int) + (s : Int), []⟩ from ⟨⟨by simp only; omega, by simp only; omega⟩, ⟨by simp only; omega, by simp only; omega⟩, by simp, fun _ h => by cases h⟩)), rfl, rfl⟩
        · have hc1' : (1 : Int) < 1 + (c : Int) := by omega
          have HNM := Lib.hid (new_mode1 HDb.out (1 + (r : Int)) ((xs.length : Int) + (s : Int)) (1 - (k : Int)))
          rw [hXB] at HNM
          clear HDb
          go_wp2_with fail
          go_meet
          exact ⟨_, rfl, _, HNM, (Lib.hid (show okMd ⟨1 + (r : Int), (xs.length : Int) + (s : Int), [1 - (k : Int)]⟩ from ⟨⟨by simp only; omega, by simp only; omega⟩, ⟨by simp only; omega, by simp only; omega⟩, by simp, fun j h => by rw [List.mem_singleton] at h; omega⟩)), rfl, rfl⟩
      case rest =>
      obtain ⟨w5, rfl, x, HNM, HMD, hx1, hx2⟩ := hcut
      obtain ⟨q0, q1, q2⟩ := HNM.out.i.in_
      rw [hx1] at q0; rw [hx2] at q1
      simp only [Nat.zero_add] at q0 q1 q2
      have hcl : cs.length ≤ 1048576 := by omega
      have hs5 : w.heap.size ≤ w5.heap.size := HNM.out.i.st.g.size
      have bl : Below w5.heap.size w5 (w5.alloc (.cells #[.int .i64 (1 + (r : Int)), .int .i64 ((xs.length : Int) + (s : Int)), .slice x.ao x.md.next.length x.cap] 99)) := (Below.refl _ _).alloc (Nat.le_refl _) _
      have HAT := Lib.hid (show McIn (w5.alloc (.cells #[.int .i64 (1 + (r : Int)), .int .i64 ((xs.length : Int) + (s : Int)), .slice x.ao x.md.next.length x.cap] 99)) w5.heap.size 0 x from by
        have h := (McAt.new (T := 99) (c := x) w5).in_
        rw [hx1, hx2] at h
        exact h)
      have HOW := Lib.hid (HNM.out.o.below bl); have HIN := Lib.hid (HNM.out.i.call bl); have HFR := Lib.hid HNM.out.fr; have HLT := Lib.hid HNM.out.lt
      have hs6 := Nat.le_trans hs5 bl.size
      have HMS := Lib.hid (show ∀ d ∈ cs ++ [x], okMd d.md from fun d hd => by
        rcases List.mem_append.1 hd with hd | hd
        · exact hsm.out d hd
        · rw [List.mem_singleton] at hd; subst hd; exact HMD.out)
      clear HNM bl hXB HMD
      go_wp2_with (at_builtin; go_loud (refine appM_list _ rfl ne_md (.tmp 61) (.tmp 63) rfl w.heap.size Tryz.underlying25 infoMd _ cs rfl HIN.out.st.m _ x _ rfl HAT.out HOW.out HFR.out hcl hs6 ?_; intro v6 w6 o6 g6))
      have HI6 := Lib.hid (show DrIn w w6 p (.slice (some ⟨g, 0, none⟩) N5 cap) t5 (.slice (some ⟨ga, 0, none⟩) xs.length ca) xs v6 (cs ++ [x]) ve e X x from ⟨HIN.out.st.mode hp o6 g6, World.ownsRow.kept HIN.out.b g6 (.inr (fun e2 => by have := HLT.out X e2.symm; omega))⟩)
      clear q0 q1 q2 HAT HOW HIN HFR HLT o6 g6
      have hbd : Below w6.heap.size w6 (w6.alloc (.cells #[] 2)) := (Below.refl _ _).alloc (Nat.le_refl _) _
      have HV0 := Lib.hid (show Own EI (w6.alloc (.cells #[] 2)) w6.heap.size (.slice (some ⟨w6.heap.size, 0, none⟩) 0 0) [] from Own.of_alloc_nil (Nat.le_refl _))
      have HSV := Lib.hid (HI6.out.st.s.below hbd); have HGV := Lib.hid (show w6.grownBy _ (some p) from grown_of_below hbd)
      have hp6 : p < w6.heap.size := HI6.out.st.s.lt
      have hg6 : w.heap.size ≤ w6.heap.size := HI6.out.st.g.size
      obtain ⟨S, hS⟩ : ∃ S : Nat, S = xs.length + s := ⟨_, rfl⟩
      have hSi : (xs.length : Int) + (s : Int) = (S : Int) := by omega
      have hS1 : 1 ≤ S ∧ S ≤ 33 := by omega
      rw [hSi] at hx2
      clear hbd hS hSi hs5 hs6
      go_loopw [11, 12] (fun V I wq => ∃ (j : Nat) (ds : List Int) (vd : Value), vd = V ∧ I = .int .i64 (j : Int) ∧ j ≤ S ∧ ds.length = j ∧ Hid (∀ y ∈ ds, 0 ≤ y ∧ y ≤ 1000) ∧ Own EI wq w6.heap.size vd ds ∧ Src 172 wq p ∧ w6.grownBy wq (some p)) (fun _ I _ => S - (intOf I).toNat)
      case atStart => exact ⟨0, [], _, rfl, rfl, Nat.zero_le _, rfl, (fun _ h => by cases h), HV0.out, HSV.out, HGV.out⟩
      case round =>
        clear HV0 HSV HGV
        obtain ⟨j, ds, vd, rfl, rfl, hj, hdl, hdd, hod, hsq, hgq⟩ := hrel
        have HIq := Lib.hid (HI6.out.draw hp hsq hgq)
        obtain ⟨-, q1, -⟩ := HIq.out.in_
        rw [hx2] at q1; simp only [Nat.zero_add] at q1
        have HOD := Lib.hid hod; have HSQ := Lib.hid hsq; have HGQ := Lib.hid hgq; clear hod hsq hgq
        by_cases hjs : j < S
        · have hji : (j : Int) < (S : Int) := by omega
          clear HIq
          go_wp2_with fail
          refine (next_any _ _ _ HSQ.out (by omega)).mono ?_
          rintro e3 wc ⟨y, rfl, hy0, hy1, -, hsc, gc⟩
          have hy2 : y < 100 := hy1 (by omega)
          have HOD3 := Lib.hid (HOD.out.src gc hp6); have HSQ3 := Lib.hid hsc; have HGQ3 := Lib.hid (grown_trans HGQ.out gc)
          have hs3 : w6.heap.size ≤ wc.heap.size := HGQ3.out.size
          have hnl2 : ds.length ≤ 4294967296 := by omega
          have HDN := Lib.hid (show ∀ z ∈ ds ++ [260 + y], 0 ≤ z ∧ z ≤ 1000 from fun z hz => by
            rcases List.mem_append.1 hz with hz | hz
            · exact hdd.out z hz
            · rw [List.mem_singleton] at hz; subst hz; omega)
          clear hsc gc hy1 HOD HSQ HGQ q1
          go_wp2_with (at_builtin; go_loud (refine append_one _ rfl (.tmp 72) (.tmp 76) rfl w6.heap.size Tryz.underlying53 info64 _ _ rfl (HOD3.out.below ((Below.refl _ _).alloc (Nat.le_refl _) _)) _ _ _ rfl (new_cell rfl) hnl2 (by simp; omega) ?_; intro v7 w7 o7 b7))
          have hb7 := ((Below.refl w6.heap.size wc).alloc hs3 (.cells #[.int .i64 (260 + y)] 2)).trans b7
          have HOD7 := Lib.hid o7; have HSQ7 := Lib.hid (HSQ3.out.belowB hb7 hp6); have HGQ7 := Lib.hid (grown_step HGQ3.out hb7 (Nat.le_refl _))
          clear o7 b7 hb7
          go_roundw
          case rel => exact ⟨j + 1, ds ++ [260 + y], _, rfl, by go_num, by omega, by rw [List.length_append, List.length_singleton]; omega, HDN, HOD7.out, HSQ7.out, HGQ7.out⟩
          case measure => simp [intOf]; omega
        · have hjS : j = S := by omega
          have hdS : ds.length = S := by omega
          have HDD := Lib.hid hdd.out
          obtain ⟨da, dc, rfl, od, -⟩ := HOD.out.get
          obtain ⟨db, hdb, -⟩ := od.some_ (by omega)
          subst hdb
          have HLo := Lib.hid (show DrLo w wr p (.slice (some ⟨g, 0, none⟩) N5 cap) t5 (.slice (some ⟨ga, 0, none⟩) xs.length ca) xs v6 (cs ++ [x]) ve e X x (.slice (some ⟨db, 0, none⟩) ds.length dc) ds from ⟨HIq.out, od.more hg6⟩)
          clear od HIq HOD HSQ HGQ HI6 hj hdl hjs hdd
          have hji : ¬ (j : Int) < (S : Int) := by omega
          go_wp2_with fail
          clear q1 hji hjS
          go_loopw [7, 13] (fun E I wq => ∃ (q : Nat) (e3 : List Sl) (v3 : Value), v3 = E ∧ I = .int .i64 (q : Int) ∧ q ≤ 1 + r ∧ (e.length + q ≤ e3.length ∧ e3.length ≤ e.length + 33 * q) ∧ Hid (∀ x ∈ e3, okSl x) ∧ DrLo w wq p (.slice (some ⟨g, 0, none⟩) N5 cap) t5 (.slice (some ⟨ga, 0, none⟩) xs.length ca) xs v6 (cs ++ [x]) v3 e3 X x (.slice (some ⟨db, 0, none⟩) ds.length dc) ds) (fun _ I _ => 1 + r - (intOf I).toNat)
          case atStart => exact ⟨0, e, _, rfl, rfl, Nat.zero_le _, ⟨by omega, by omega⟩, hse.out, HLo.out⟩
          case round =>
            clear HLo
            obtain ⟨q, e3, v3, rfl, rfl, hq, ⟨hq1, hq2⟩, hs3, hlo⟩ := hrel
            obtain ⟨q0, -, -⟩ := hlo.i.in_
            rw [hx1] at q0
            have HLq := Lib.hid hlo; clear hlo
            by_cases hqr : q < 1 + r
            · have hqi : (q : Int) < 1 + (r : Int) := by omega
              go_wp2_with fail
              clear q0
              go_loopw [7, 14] (fun E I wq => ∃ (i : Nat) (e4 : List Sl) (v4 : Value), v4 = E ∧ I = .int .i64 (i : Int) ∧ i ≤ S ∧ e4.length = e3.length + i ∧ Hid (∀ x ∈ e4, okSl x) ∧ DrLo w wq p (.slice (some ⟨g, 0, none⟩) N5 cap) t5 (.slice (some ⟨ga, 0, none⟩) xs.length ca) xs v6 (cs ++ [x]) v4 e4 X x (.slice (some ⟨db, 0, none⟩) ds.length dc) ds) (fun _ I _ => S - (intOf I).toNat)
              case atStart => exact ⟨0, e3, _, rfl, rfl, Nat.zero_le _, rfl, hs3.out, HLq.out⟩
              case round =>
                clear HLq
                obtain ⟨i, e4, v4, rfl, rfl, hi, he4, hs4, hlo⟩ := hrel
                obtain ⟨-, q1, -⟩ := hlo.i.in_
                rw [hx2] at q1; simp only [Nat.zero_add] at q1
                have HLi := Lib.hid hlo; clear hlo
                by_cases hiS : i < S
                · have hii : (i : Int) < (S : Int) := by omega
                  go_wp2_with fail
                  clear q1
                  refine (l08Draw_any _ _ HLi.out.i.st.s).mono ?_
                  rintro e5 wc ⟨n1, a1, z1, d1, c1, rfl, hok, hsc, gc⟩
                  have hok1 := drawn_in hok (n := n1) (c := c1)
                  have HLc := Lib.hid (HLi.out.draw hp hsc gc)
                  clear hok hsc gc HLi
                  have HDA := Lib.hid (DescAt.new (T := 44) (n := n1) (a := a1) (z := z1) (u := d1) (c := c1) wc)
                  have HBA := Lib.hid ((Below.refl wc.heap.size wc).alloc (Nat.le_refl _) (.cells #[.int .i64 n1, .int .i64 a1, .int .i64 z1, .int .i64 d1, .bool c1] 44))
                  go_upto_region 30 with fail
                  generalize wc.alloc (.cells #[.int .i64 n1, .int .i64 a1, .int .i64 z1, .int .i64 d1, .bool c1] 44) = wd at HDA HBA ⊢
                  generalize hY : wc.heap.size = Y at HDA HBA ⊢
                  have hxp : i % xs.length < xs.length := Nat.mod_lt _ (by omega)
                  have hcA := (HLc.out.call (by rw [hY]; exact HBA.out)).i.st.a.cellD hxp
                  have hyb := HX3.out _ (getD_mem' hxp)
                  have hrem : (i : Int) % (xs.length : Int) = ((i % xs.length : Nat) : Int) := rfl
                  have hrem2 : Int.tmod (i : Int) (xs.length : Int) = ((i % xs.length : Nat) : Int) := by rw [Int.tmod_eq_emod_of_nonneg (by omega)]; exact hrem
                  have hxn0 : ¬ (xs.length : Int) = 0 := by omega
                  have hxw : IntKind.i64.wrap ((i % xs.length : Nat) : Int) = ((i % xs.length : Nat) : Int) := by rw [IntKind.wrap_i64]; omega
                  have hxlt : ((i % xs.length : Nat) : Int) < (xs.length : Int) := by omega
                  generalize xs.getD (i % xs.length) 0 = y1 at hcA hyb
                  generalize i % xs.length = im at hcA hrem hrem2 hxw hxlt hxp
                  have fA := HDA.out.f 0
                  have dA := HDA.out.c0
                  go_upto_region 31 with fail
                  have HDB := Lib.hid (HDA.out.set0 y1)
                  have HBB := Lib.hid (HBA.out.setCell (p := ⟨Y, 0, none⟩) (Nat.le_refl Y) (.int .i64 y1))
                  generalize wd.setCell ⟨Y, 0, none⟩ (.int .i64 y1) = we at HDB HBB ⊢
                  clear HDA HBA hcA hrem hrem2 hxn0 hxw hxlt hxp fA dA
                  have dB := HDB.out.c1
                  have fB := HDB.out.f 1
                  go_cut [106] from 84 to 120 (fun s106 wx => ∃ wy, wy = wx ∧ s106 = .bool (decide (a1 = 3 ∧ 0 < k)) ∧ we = wy)
                  case first =>
                    by_cases ha3 : a1 = 3
                    · subst ha3
                      by_cases hk0 : 0 < (k : Int)
                      · have hkd : decide ((3 : Int) = 3 ∧ 0 < k) = true := decide_eq_true ⟨rfl, by omega⟩
                        have hkd2 : decide (0 < k) = true := decide_eq_true (by omega)
                        go_wp2_with fail
                        go_meet
                        exact ⟨_, rfl, by first | rw [hkd2] | rw [hkd], rfl⟩
                      · have hkd : decide ((3 : Int) = 3 ∧ 0 < k) = false := decide_eq_false (by omega)
                        have hkd2 : decide (0 < k) = false := decide_eq_false (by omega)
                        go_wp2_with fail
                        go_meet
                        exact ⟨_, rfl, by first | rw [hkd2] | rw [hkd], rfl⟩
                    · have ha3' : (a1 == 3) = false := by simp [ha3]
                      have hkd : decide (a1 = 3 ∧ 0 < k) = false := decide_eq_false (fun h => ha3 h.1)
                      go_wp2_with fail
                      go_meet
                      exact ⟨_, rfl, by rw [hkd], rfl⟩
                  case rest =>
                  obtain ⟨wf, rfl, rfl, rfl⟩ := hcut
                  go_upto_if 106 with fail
                  go_cut [] from 84 to 120 (fun wx => ∃ wy, wy = wx ∧ ∃ a2 : Int, Hid (descIn ⟨y1, a2, z1, d1, c1⟩) ∧ Hid (DescAt 44 wy Y y1 a2 z1 d1 c1) ∧ Hid (Below Y wc wy))
                  case first =>
                    have HOK := Lib.hid (show descIn ⟨y1, a1, z1, d1, c1⟩ from hok1)
                    by_cases hkd : a1 = 3 ∧ 0 < k
                    · have hd := decide_eq_true hkd
                      have HO2 := Lib.hid (show descIn ⟨y1, 1, z1, d1, c1⟩ from ⟨⟨by show (0 : Int) ≤ 1; decide, by show (1 : Int) ≤ 3; decide⟩, HOK.out.2⟩)
                      have HDC := Lib.hid (HDB.out.set1 1)
                      have HBC := Lib.hid (HBB.out.setCell (p := ⟨Y, 1, none⟩) (Nat.le_refl Y) (.int .i64 1))
                      rw [hd]
                      clear hd hkd
                      go_wp2_with fail
                      go_meet
                      exact ⟨_, rfl, 1, HO2, HDC, HBC⟩
                    · have hd := decide_eq_false hkd
                      rw [hd]
                      clear hd hkd
                      go_wp2_with fail
                      go_meet
                      exact ⟨_, rfl, a1, HOK, HDB, HBB⟩
                  case rest =>
                  obtain ⟨wf, rfl, a2, HOK, HDC, HBC⟩ := hcut
                  clear HDB HBB dB fB hok1
                  have hids : i < ds.length := by omega
                  have hcD := (HLc.out.call (by rw [hY]; exact HBC.out)).d.cellD hids
                  have hdb := HDD.out _ (getD_mem' hids)
                  generalize ds.getD i 0 = dv at hcD hdb
                  have hidi : (i : Int) < (ds.length : Int) := by omega
                  have dC := HDC.out.c3
                  have fC := HDC.out.f 3
                  go_upto_region 34 with fail
                  have HDE := Lib.hid (HDC.out.set3 dv)
                  have HBE := Lib.hid (HBC.out.setCell (p := ⟨Y, 3, none⟩) (Nat.le_refl Y) (.int .i64 dv))
                  generalize wf.setCell ⟨Y, 3, none⟩ (.int .i64 dv) = wg at HDE HBE ⊢
                  have HLg := Lib.hid (HLc.out.call (by rw [hY]; exact HBE.out))
                  have HOS := Lib.hid (show okSl ⟨(k : Int), (q : Int), (i : Int), ⟨y1, a2, z1, dv, c1⟩⟩ from ⟨⟨by simp only; omega, by simp only; omega⟩, ⟨by simp only; omega, by simp only; omega⟩, ⟨by simp only; omega, by simp only; omega⟩, ⟨HOK.out.1, HOK.out.2.1, hdb⟩, hyb⟩)
                  obtain ⟨e0', e1', e2', e3', e4'⟩ := desc_cells HDE.out
                  clear HDC HBC HBE HLc hcD hidi dC fC HOK hdb hyb hii
                  have HY := Lib.hid (SlBk.new (T := 65) (x := ⟨(k : Int), (q : Int), (i : Int), ⟨y1, a2, z1, dv, c1⟩⟩) wg)
                  have hbl := (Below.refl wg.heap.size wg).alloc (Nat.le_refl _) (.cells #[.int .i64 (k : Int), .int .i64 (q : Int), .int .i64 (i : Int), .int .i64 y1, .int .i64 a2, .int .i64 z1, .int .i64 dv, .bool c1] 65)
                  have HLh := Lib.hid (HLg.out.call hbl)
                  have hszh := HLh.out.i.st.g.size
                  have hel : e4.length ≤ 1073741824 := by omega
                  clear hbl
                  go_wp2_with (at_builtin; go_loud (refine append_slx _ rfl (.tmp 113) (.tmp 119) rfl w.heap.size Tryz.underlying26 infoSl _ e4 rfl HLh.out.i.st.e wg.heap.size 0 ⟨(k : Int), (q : Int), (i : Int), ⟨y1, a2, z1, dv, c1⟩⟩ _ rfl HY.out.in_ hel hszh ?_); intro v9 w9 o9 g9)
                  have HL9 := Lib.hid (HLh.out.slot hp o9 g9)
                  have HS9 := Lib.hid (show ∀ x ∈ e4 ++ [(⟨(k : Int), (q : Int), (i : Int), ⟨y1, a2, z1, dv, c1⟩⟩ : Sl)], okSl x from fun z hz => by
                    rcases List.mem_append.1 hz with hz | hz
                    · exact hs4.out z hz
                    · rw [List.mem_singleton] at hz; subst hz; exact HOS.out)
                  clear o9 g9 HLh HLg HY HDE HOS e0' e1' e2' e3' e4'
                  go_wp2_with fail
                  go_roundw
                  case rel => exact ⟨i + 1, e4 ++ [(⟨(k : Int), (q : Int), (i : Int), ⟨y1, a2, z1, dv, c1⟩⟩ : Sl)], _, rfl, by go_num, by omega, by rw [List.length_append, List.length_singleton]; omega, HS9, HL9.out⟩
                  case measure => simp [intOf]; omega
                · have hii : ¬ (i : Int) < (S : Int) := by omega
                  have hiS' : i = S := by omega
                  go_wp2_with fail
                  go_roundw
                  case rel => exact ⟨q + 1, e4, _, rfl, by go_num, by omega, ⟨by omega, by omega⟩, hs4, HLi.out⟩
                  case measure => simp [intOf]; omega
            · have hqi : ¬ (q : Int) < 1 + (r : Int) := by omega
              have hq' : q = 1 + r := by omega
              go_wp2_with fail
              go_roundw
              case rel => exact ⟨k + 1, cs ++ [x], e3, _, _, rfl, rfl, by go_num, by omega, by rw [List.length_append, List.length_singleton]; omega, HMS, hs3, ⟨by omega, by omega⟩, HLq.out.i.st⟩
              case measure => simp [intOf]; omega
    · have hkc' : k = c + 1 := by omega
      have hki : ¬ (k : Int) < 1 + (c : Int) := by omega
      have hcl1 : 1 ≤ cs.length := by omega
      have hcl2 : cs.length ≤ 2 := by omega
      have hee1 : 1 ≤ e.length := by omega
      have hee2 : e.length ≤ 200 := by omega
      clear hl hkc' hkc hk he1 he2
      go_wp2_with fail
      refine (next_any _ _ _ HDo.out.s (by omega)).mono ?_
      rintro e6 wz ⟨y, rfl, hy0, hy1, -, hsz, gz⟩
      have hy2 : y < 5000 := hy1 (by omega)
      have HDz := Lib.hid (HDo.out.draw hp hsz gz)
      clear hsz gz HDo
      have HRz := HDz.out.r.all
      dsimp only [Mv.zero, List.length_nil] at HRz
      obtain ⟨q0, q1, q2, q3⟩ := HRz
      have f0 := HDz.out.r.f 0; have f1 := HDz.out.r.f 1; have f2 := HDz.out.r.f 2; have f3 := HDz.out.r.f 3
      obtain ⟨mo, mc, rfl, om, -⟩ := HDz.out.m.get
      obtain ⟨eo, ec, rfl, oe, -⟩ := HDz.out.e.get
      subst hl5
      go_wp2_with fail
      change bodyPost _ _ _ _ _ (setMv wz w.heap.size ⟨1 + y, t5, some ⟨g, 0, none⟩, cap, cs, mo, mc, e, eo, ec⟩)
      have bz := below_setMv (B := w.heap.size) (w := wz) (Nat.le_refl _) ⟨1 + y, t5, some ⟨g, 0, none⟩, cap, cs, mo, mc, e, eo, ec⟩
      have HZ := Lib.hid (HDz.out.r.put ⟨1 + y, t5, some ⟨g, 0, none⟩, cap, cs, mo, mc, e, eo, ec⟩)
      have HOZ := Lib.hid ((show OwnMe wz w.heap.size ⟨1 + y, t5, some ⟨g, 0, none⟩, cap, cs, mo, mc, e, eo, ec⟩ from ⟨HDz.out.n, om, oe⟩).other HDz.out.r (grown_setMv wz w.heap.size ⟨1 + y, t5, some ⟨g, 0, none⟩, cap, cs, mo, mc, e, eo, ec⟩))
      have HSZ := Lib.hid (HDz.out.s.belowB bz hp); have HGZ := Lib.hid (grown_step HDz.out.g bz (Nat.le_refl _))
      have HDR := Lib.hid (show DrMv ⟨1 + y, t5, some ⟨g, 0, none⟩, cap, cs, mo, mc, e, eo, ec⟩ from ⟨⟨by simp only; omega, by simp only; omega⟩, by simp only; omega, by simp only; omega, hN1, hN2, HD5.out, by simp only; omega, by simp only; omega, hsm.out, hse.out⟩)
      clear q0 q1 q2 q3 f0 f1 f2 f3 bz om oe HDz
      generalize setMv wz w.heap.size ⟨1 + y, t5, some ⟨g, 0, none⟩, cap, cs, mo, mc, e, eo, ec⟩ = wq at HZ HOZ HSZ HGZ ⊢
      obtain ⟨e0', e1', e2', e3'⟩ := HZ.out.all
      exact bodyPost_ret (v := mvVal ⟨1 + y, t5, some ⟨g, 0, none⟩, cap, cs, mo, mc, e, eo, ec⟩) (by simp [mvVal, results, Tryz.results160, go_sem, e0', e1', e2', e3']) rfl ⟨⟨1 + y, t5, some ⟨g, 0, none⟩, cap, cs, mo, mc, e, eo, ec⟩, rfl, HOZ.out, HDR.out, HSZ.out, HGZ.out⟩
end

section
open Go.RowKit
structure LowMe (w : World) (base : Nat) (v : Mv) : Prop where
  rn : RdN w v.no v.n.length v.n
  rm : RdM w v.mo v.cs.length v.cs
  re : RdE w v.eo v.e.length v.e
  ln : ∀ b off, v.no = some ⟨b, off, none⟩ → base ≤ b
  lm : LowM base v.mo v.cs
  le : ∀ b off, v.eo = some ⟨b, off, none⟩ → base ≤ b
  cn : v.n.length ≤ v.nc ∧ v.nc ≤ 9223372036854775807
  cm : v.cs.length ≤ v.mc ∧ v.mc ≤ 9223372036854775807
  ce : v.e.length ≤ v.ec ∧ v.ec ≤ 9223372036854775807
structure AnyMv (v : Mv) : Prop where
  nl : v.n.length ≤ 5
  nm : shortN v.n
  cs : anyMc v.cs
  el : v.e.length ≤ 200
section
variable {w w' : World} {base p : Nat} {v : Mv}
theorem LowMe.far (h : LowMe w base v) (g : w.grownBy w' (some p)) (hp : p < base) : LowMe w' base v :=
  ⟨h.rn.only g (fun b off e e2 => by have := h.ln b off e; cases e2; omega), h.rm.far h.lm g hp, h.re.only g (fun b off e e2 => by have := h.le b off e; cases e2; omega), h.ln, h.lm, h.le, h.cn, h.cm, h.ce⟩
theorem LowMe.below (h : LowMe w base v) (b : Below w.heap.size w w') : LowMe w' base v := ⟨h.rn.below b, h.rm.below b, h.re.below b, h.ln, h.lm, h.le, h.cn, h.cm, h.ce⟩
theorem LowMe.more {base' : Nat} (h : LowMe w base v) (hb : base' ≤ base) : LowMe w base' v := ⟨h.rn, h.rm, h.re, fun b off e => Nat.le_trans hb (h.ln b off e), h.lm.more hb, fun b off e => Nat.le_trans hb (h.le b off e), h.cn, h.cm, h.ce⟩
theorem OwnN.lowA {E : Nat} {ao : Option Addr} {n c : Nat} {t : List Nd} (h : OwnN E w base (.slice ao n c) t) : ∀ b off, ao = some ⟨b, off, none⟩ → base ≤ b := fun b off e => by subst e; exact (h.block b rfl).1
theorem OwnE.lowA {E : Nat} {ao : Option Addr} {n c : Nat} {t : List Sl} (h : OwnE E w base (.slice ao n c) t) : ∀ b off, ao = some ⟨b, off, none⟩ → base ≤ b := fun b off e => by subst e; exact (h.block b rfl).1
theorem OwnN.rdA {E : Nat} {ao : Option Addr} {c : Nat} {t : List Nd} (h : OwnN E w base (.slice ao t.length c) t) : RdN w ao t.length t := by
  obtain ⟨ao, cap, e, -, r⟩ := h.get
  cases e; exact r
theorem OwnE.rdA {E : Nat} {ao : Option Addr} {c : Nat} {t : List Sl} (h : OwnE E w base (.slice ao t.length c) t) : RdE w ao t.length t := by
  obtain ⟨ao, cap, e, -, r⟩ := h.get
  cases e; exact r
theorem OwnM.rdA {E EI : Nat} {ao : Option Addr} {c : Nat} {cs : List Mc} (h : OwnM E EI w base (.slice ao cs.length c) cs) : RdM w ao cs.length cs ∧ LowM base ao cs := by
  obtain ⟨ao', cap, e, r, l⟩ := rdM_row h.row h.nx
  cases e; exact ⟨r, l⟩
theorem OwnE.someE {E n c : Nat} {ao : Option Addr} {t : List Sl} (h : OwnE E w base (.slice ao n c) t) (hl : 1 ≤ t.length) : ∃ g, ao = some ⟨g, 0, none⟩ ∧ g < w.heap.size := by
  unfold OwnE at h
  have hb := World.ownsRow.lt h
  rcases h.2 with ⟨-, e2⟩ | ⟨g', cap', cur, e, -⟩
  · omega
  · cases e; exact ⟨g', rfl, (hb g' rfl).2⟩
theorem OwnMe.lowMe (h : OwnMe w base v) : LowMe w base v :=
  ⟨h.n.rdA, (OwnM.rdA h.m).1, h.e.rdA, h.n.lowA, (OwnM.rdA h.m).2, h.e.lowA, h.n.cap, h.m.cap, h.e.cap⟩
end
theorem mTot_five : ∀ t : List Md, (∀ x ∈ t, x.next.length ≤ 5) → mTot t ≤ 7 * t.length
  | [], _ => by simp [mTot]
  | x :: r, h => by
    have h1 := mTot_five r (fun y hy => h y (by simp [hy]))
    have h2 := h x (by simp)
    simp only [mTot, List.length_cons]
    omega
theorem AnyMv.small {v : Mv} (h : AnyMv v) : Small v.me := by
  have e1 : (mds v.cs).length = v.cs.length := mds_len v.cs
  have hnx : ∀ x ∈ mds v.cs, x.next.length ≤ 5 := fun x hx => by
    obtain ⟨c, hc, rfl⟩ := List.mem_map.1 hx
    exact h.cs.2 c hc
  have h5 := mTot_five (mds v.cs) hnx
  have h17 := h.cs.1
  refine ⟨Nat.le_trans h.nl (by omega), h.nm.small, ?_, ?_, fun x hx => Nat.le_trans (hnx x hx) (by omega), Nat.le_trans h.el (by omega)⟩
  · show (mds v.cs).length ≤ 1048576
    omega
  · show mTot (mds v.cs) ≤ 3145728
    omega
theorem LowMe.rd {w : World} {base : Nat} {v : Mv} (h : LowMe w base v) (hs : AnyMv v) : RdMe w v := by
  have s := hs.small
  have e1 : v.me.modes.length = v.cs.length := mds_len v.cs
  exact ⟨h.rn, h.rm, h.re, h.cn.1, h.cn.2, h.cm.1, h.cm.2, h.ce.1, h.ce.2, s.nl, by have := s.ml; omega, s.el, s.ns, fun c hc => s.ms c.md (List.mem_map_of_mem hc)⟩
theorem DrMv.any {v : Mv} (h : DrMv v) : AnyMv v := ⟨Nat.le_trans h.n (by omega), fun x hx => (h.nm x hx).2.1, ⟨Nat.le_trans h.c1 (by omega), fun c hc => Nat.le_trans (h.md c hc).2.2.1 (by omega)⟩, h.e1⟩
def DrawnAM (w : World) (p : Nat) (e : Ending) (w' : World) : Prop :=
  ∃ v, e = .returned (mvVal v) ∧ LowMe w' w.heap.size v ∧ AnyMv v ∧ Src 172 w' p ∧ w.grownBy w' (some p)
structure ZSt (w W : World) (p B : Nat) (v : Mv) : Prop where
  g : w.grownBy W (some p)
  s : Src 172 W p
  r : MvAt 28 W w.heap.size Mv.zero
  b : MvAt 28 W B v
  o : OwnMe W (w.heap.size + 1) v
  hB : w.heap.size + 1 ≤ B
  a : AnyMv v
structure ZFin (w W : World) (p B : Nat) (v : Mv) : Prop where
  g : w.grownBy W (some p)
  s : Src 172 W p
  r : MvAt 28 W w.heap.size Mv.zero
  b : MvAt 28 W B v
  o : LowMe W (w.heap.size + 1) v
  a : AnyMv v
section
variable {w W W' : World} {p B : Nat} {v : Mv}
theorem ZSt.fin (h : ZSt w W p B v) : ZFin w W p B v := ⟨h.g, h.s, h.r, h.b, h.o.lowMe, h.a⟩
theorem ZSt.call (h : ZSt w W p B v) (b : Below W.heap.size W W') : ZSt w W' p B v := ⟨grown_trans h.g (grown_of_below b), h.s.below b, h.r.below b h.r.lt, h.b.below b h.b.lt, h.o.below b, h.hB, h.a⟩
theorem ZSt.draw (h : ZSt w W p B v) (hp : p < w.heap.size) (s : Src 172 W' p) (g : W.grownBy W' (some p)) : ZSt w W' p B v :=
  have hB := h.hB
  ⟨grown_trans h.g g, s, h.r.grown g (fun e => by injection e with e; omega), h.b.grown g (fun e => by injection e with e; omega), ⟨h.o.n.src g (by omega), h.o.m.old g (by omega), h.o.e.old g (by omega)⟩, h.hB, h.a⟩
theorem ZSt.box {v' : Mv} (h : ZSt w W p B v) (hp : p < w.heap.size) (b : MvAt 28 W' B v') (g : W.grownBy W' (some B)) (o : OwnMe W (w.heap.size + 1) v') (a : AnyMv v') : ZSt w W' p B v' := by
  have hB := h.hB
  have hb : Below (w.heap.size + 1) W W' := (Below.refl _ _).grown g (Nat.le_trans hB (Nat.le_of_lt h.b.lt)) (fun k e => by cases e; exact hB)
  exact ⟨grown_step h.g hb (Nat.le_succ _), h.s.belowB hb (by omega), h.r.grown g (fun e => by injection e with e; omega), b, o.other h.b g, h.hB, a⟩
theorem ZSt.slots {e' : List Sl} (h : ZSt w W p B v) (hp : p < w.heap.size) (hl : e'.length = v.e.length) (o : OwnE ES W' (w.heap.size + 1) v.ve e') (g : W.grownBy W' v.ve.ownBlock) : ZSt w W' p B ⟨v.id, v.n, v.no, v.nc, v.cs, v.mo, v.mc, e', v.eo, v.ec⟩ := by
  have hB := h.hB
  have hsz : w.heap.size + 1 ≤ W.heap.size := Nat.le_trans hB (Nat.le_of_lt h.b.lt)
  have hb : Below (w.heap.size + 1) W W' := (Below.refl _ _).grown g hsz (fun k e => (h.o.e.block k e).1)
  have hve : Value.slice v.eo e'.length v.ec = v.ve := by unfold Mv.ve; rw [hl]
  refine ⟨grown_step h.g hb (Nat.le_succ _), h.s.belowB hb (by omega), h.r.below hb (Nat.lt_succ_self _), ?_, ⟨h.o.n.only g (rows_or h.o.n h.o.e (by decide)), ⟨World.ownsRow.kept h.o.m.row g (rows_or h.o.m.row h.o.e (by decide)), fun c hc => (h.o.m.nx c hc).only g (rows_or (h.o.m.nx c hc) h.o.e (by decide)), h.o.m.apart⟩, ?_⟩, h.hB, ⟨h.a.nl, h.a.nm, h.a.cs, by show e'.length ≤ 200; rw [hl]; exact h.a.el⟩⟩
  · have hbx : MvAt 28 W' B v := bx_at (World.ownsRow.kept (bx_of h.b (Nat.le_refl _)) g (rows_or (bx_of h.b (Nat.le_refl _)) h.o.e (by decide)))
    unfold MvAt at hbx ⊢
    dsimp only
    rw [hl]; exact hbx
  · show OwnE ES W' (w.heap.size + 1) (.slice v.eo e'.length v.ec) e'
    rw [hve]; exact o
end
section
variable {w W : World} {p B ge k : Nat} {v : Mv}
def Mv.withE (v : Mv) (e : List Sl) : Mv := ⟨v.id, v.n, v.no, v.nc, v.cs, v.mo, v.mc, e, v.eo, v.ec⟩
theorem ZSt.in_ (h : ZSt w W p B v) (hge : v.eo = some ⟨ge, 0, none⟩) (hk : k < v.e.length) : SlIn W ge (k * 8) (slOf v.e k) := by
  have o := h.o.e
  unfold Mv.ve at o
  rw [hge] at o
  exact o.in_ rfl hk
theorem ZSt.field {j : Nat} {u : Value} {y : Sl} (h : ZSt w W p B v) (hp : p < w.heap.size) (hge : v.eo = some ⟨ge, 0, none⟩) (hk : k < v.e.length) (hj : j < 8) (e : slCells y = (slCells (slOf v.e k)).set j u) :
    W.frozen? ⟨ge, k * 8 + j, none⟩ = false ∧ ZSt w (W.setCell ⟨ge, k * 8 + j, none⟩ u) p B (v.withE (v.e.set k y)) := by
  have o := h.o.e
  unfold Mv.ve at o
  rw [hge] at o
  obtain ⟨f, o2, -⟩ := o.field (j := j) (u := u) (y := y) rfl hk hj e
  have hve : v.ve = .slice (some ⟨ge, 0, none⟩) v.e.length v.ec := by unfold Mv.ve; rw [hge]
  refine ⟨f, h.slots hp (by rw [List.length_set]) (by rw [hve]; exact o2) ?_⟩
  rw [hve]
  exact grown_set W ge (k * 8 + j) u
theorem slOf_same {t : List Sl} {k : Nat} {y : Sl} (hk : k < t.length) : slOf (t.set k y) k = y := by simp [slOf, List.getD, List.getElem?_set_self hk]
end
def setDsZ (w : World) (b off : Nat) (d : Ds) : World := ((((w.setCell ⟨b, off, none⟩ (.int .i64 d.node)).setCell ⟨b, off + 1, none⟩ (.int .i64 d.kind)).setCell ⟨b, off + 2, none⟩ (.int .i64 d.size)).setCell ⟨b, off + 3, none⟩ (.int .i64 d.dur)).setCell ⟨b, off + 4, none⟩ (.bool d.chg)
theorem OwnE.storeDZ {E base g n cap k : Nat} {w : World} {t : List Sl} {z : Sl} (ho : OwnE E w base (.slice (some ⟨g, 0, none⟩) n cap) t) (hl : t.length = n) (hk : k < n) (hz : slOf t k = z) (d : Ds) :
    OwnE E (setDsZ w g (k * 8 + 3) d) base (.slice (some ⟨g, 0, none⟩) n cap) (t.set k ⟨z.mode, z.round, z.slot, d⟩) ∧ Below base w (setDsZ w g (k * 8 + 3) d) := by
  have hkt : k < t.length := by omega
  obtain ⟨-, o3, b3⟩ := ho.field (j := 3) (u := .int .i64 d.node) (y := ⟨z.mode, z.round, z.slot, ⟨d.node, z.desc.kind, z.desc.size, z.desc.dur, z.desc.chg⟩⟩) hl hk (by omega) (by rw [hz]; rfl)
  obtain ⟨-, o4, b4⟩ := o3.field (j := 4) (u := .int .i64 d.kind) (y := ⟨z.mode, z.round, z.slot, ⟨d.node, d.kind, z.desc.size, z.desc.dur, z.desc.chg⟩⟩) (by rw [List.length_set]; exact hl) hk (by omega) (by rw [slOf_set hkt]; rfl)
  rw [List.set_set] at o4
  obtain ⟨-, o5, b5⟩ := o4.field (j := 5) (u := .int .i64 d.size) (y := ⟨z.mode, z.round, z.slot, ⟨d.node, d.kind, d.size, z.desc.dur, z.desc.chg⟩⟩) (by rw [List.length_set]; exact hl) hk (by omega) (by rw [slOf_set hkt]; rfl)
  rw [List.set_set] at o5
  obtain ⟨-, o6, b6⟩ := o5.field (j := 6) (u := .int .i64 d.dur) (y := ⟨z.mode, z.round, z.slot, ⟨d.node, d.kind, d.size, d.dur, z.desc.chg⟩⟩) (by rw [List.length_set]; exact hl) hk (by omega) (by rw [slOf_set hkt]; rfl)
  rw [List.set_set] at o6
  obtain ⟨-, o7, b7⟩ := o6.field (j := 7) (u := .bool d.chg) (y := ⟨z.mode, z.round, z.slot, d⟩) (by rw [List.length_set]; exact hl) hk (by omega) (by rw [slOf_set hkt]; rfl)
  rw [List.set_set] at o7
  exact ⟨o7, (((b3.trans b4).trans b5).trans b6).trans b7⟩
theorem grown_setDsZ (w : World) (g off : Nat) (d : Ds) : w.grownBy (setDsZ w g off d) (some g) := by
  unfold setDsZ
  exact grown_trans (grown_trans (grown_trans (grown_trans (grown_set _ _ _ _) (grown_set _ _ _ _)) (grown_set _ _ _ _)) (grown_set _ _ _ _)) (grown_set _ _ _ _)
theorem ZSt.desc {w W : World} {p B ge k : Nat} {v : Mv} {z : Sl} (h : ZSt w W p B v) (hp : p < w.heap.size) (hge : v.eo = some ⟨ge, 0, none⟩) (hk : k < v.e.length) (hz : slOf v.e k = z) (d : Ds) :
    ZSt w (setDsZ W ge (k * 8 + 3) d) p B (v.withE (v.e.set k ⟨z.mode, z.round, z.slot, d⟩)) := by
  have o := h.o.e
  unfold Mv.ve at o
  rw [hge] at o
  obtain ⟨o2, -⟩ := o.storeDZ rfl hk hz d
  have hve : v.ve = .slice (some ⟨ge, 0, none⟩) v.e.length v.ec := by unfold Mv.ve; rw [hge]
  refine h.slots hp (by rw [List.length_set]) (by rw [hve]; exact o2) ?_
  rw [hve]
  exact grown_setDsZ W ge (k * 8 + 3) d
theorem ZSt.frozen {w W : World} {p B ge : Nat} {v : Mv} (h : ZSt w W p B v) (hge : v.eo = some ⟨ge, 0, none⟩) (hk : 0 < v.e.length) : ∀ j, W.frozen? ⟨ge, j, none⟩ = false := by
  have o := h.o.e
  unfold Mv.ve at o
  rw [hge] at o
  exact (o.store rfl hk Sl.zero).2.1
theorem ZSt.ne {w W : World} {p B ge : Nat} {v : Mv} (h : ZSt w W p B v) (hge : v.eo = some ⟨ge, 0, none⟩) : B ≠ ge := fun e => ownsRow_ne h.o.e h.b (by decide) (by rw [e]; unfold Mv.ve; rw [hge]; rfl)
theorem ZSt.keep {w W W' : World} {p B ge : Nat} {v : Mv} (h : ZSt w W p B v) (hge : v.eo = some ⟨ge, 0, none⟩) (g : W.grownBy W' (some ge)) : W'.cell? ⟨B, 3, none⟩ = some (.slice (some ⟨ge, 0, none⟩) v.e.length v.ec) := by
  have q := (h.b.grown g (fun e => h.ne hge (by injection e))).all.2.2.2
  rwa [hge] at q
def bigMv (R S : Int) (N K : Nat) : Mv := ⟨3, [⟨0, ⟨#[97]⟩, 0, false⟩], some ⟨N, 0, none⟩, 1, [⟨⟨R, S, []⟩, none, 0⟩], some ⟨K, 0, none⟩, 1, [], none, 0⟩
theorem big_any (R S : Int) (N K : Nat) : AnyMv (bigMv R S N K) := ⟨by simp [bigMv], fun x hx => by simp only [bigMv, List.mem_singleton] at hx; subst hx; decide, ⟨by simp [bigMv], fun c hc => by simp only [bigMv, List.mem_singleton] at hc; subst hc; simp⟩, by simp [bigMv]⟩
theorem own_mode {w : World} {base K : Nat} (R S : Int) (hK : w.heap.size = K) (hb : base ≤ K) : OwnM EM EI (w.alloc (.cells #[.int .i64 R, .int .i64 S, .slice none 0 0] EM)) base (.slice (some ⟨K, 0, none⟩) 1 1) [⟨⟨R, S, []⟩, none, 0⟩] :=
  ⟨own_new #[.int .i64 R, .int .i64 S, .slice none 0 0] hK hb rfl (by omega), fun c hc => by rw [List.mem_singleton] at hc; subst hc; exact World.ownsRow_nil _ _ _ _, List.pairwise_singleton _ _⟩
section
variable {w W W' : World} {p B N K : Nat} {R S : Int} {vv : Value} {t : List Sl}
theorem big_start {v : Mv} (h : ZSt w W p B v) (hp : p < w.heap.size) : ZSt w (setMv ((W.alloc (.cells #[.int .i64 0, .string ⟨#[97]⟩, .int .i64 0, .bool false] EN)).alloc (.cells #[.int .i64 2, .int .i64 16, .slice none 0 0] EM)) B (bigMv 2 16 W.heap.size (W.heap.size + 1))) p B (bigMv 2 16 W.heap.size (W.heap.size + 1)) := by
  have hB := h.hB
  have hlt := h.b.lt
  have s1 : (W.alloc (.cells #[.int .i64 0, .string ⟨#[97]⟩, .int .i64 0, .bool false] EN)).heap.size = W.heap.size + 1 := size_new rfl
  have h1 := h.call (below_new (o := (.cells #[.int .i64 0, .string ⟨#[97]⟩, .int .i64 0, .bool false] EN)))
  have o1 : OwnN EN (W.alloc (.cells #[.int .i64 0, .string ⟨#[97]⟩, .int .i64 0, .bool false] EN)) (w.heap.size + 1) (.slice (some ⟨W.heap.size, 0, none⟩) 1 1) [⟨0, ⟨#[97]⟩, 0, false⟩] := own_new #[.int .i64 0, .string ⟨#[97]⟩, .int .i64 0, .bool false] rfl (by omega) rfl (by omega)
  generalize W.alloc (.cells #[.int .i64 0, .string ⟨#[97]⟩, .int .i64 0, .bool false] EN) = W1 at s1 h1 o1 ⊢
  have h2 := h1.call (below_new (o := (.cells #[.int .i64 2, .int .i64 16, .slice none 0 0] EM)))
  have o2 := own_mode 2 16 s1 (show w.heap.size + 1 ≤ W.heap.size + 1 by omega)
  have o1' := o1.below (below_new (o := (.cells #[.int .i64 2, .int .i64 16, .slice none 0 0] EM)))
  exact h2.box hp (h2.b.put _) (grown_setMv _ _ _) ⟨o1', o2, OwnE.nil_⟩ (big_any _ _ _ _)
theorem big_mode (h : ZSt w W p B (bigMv R S N K)) (hp : p < w.heap.size) : ZSt w ((W.alloc (.cells #[.int .i64 3, .int .i64 11, .slice none 0 0] EM)).setCell ⟨B, 2, none⟩ (.slice (some ⟨W.heap.size, 0, none⟩) 1 1)) p B (bigMv 3 11 N W.heap.size) := by
  have hB := h.hB
  have hlt := h.b.lt
  have h2 := h.call (below_new (o := (.cells #[.int .i64 3, .int .i64 11, .slice none 0 0] EM)))
  have o2 := own_mode (w := W) 3 11 rfl (show w.heap.size + 1 ≤ W.heap.size by omega)
  exact h2.box hp (h2.b.set2 [⟨⟨3, 11, []⟩, none, 0⟩] (some ⟨W.heap.size, 0, none⟩) 1) (grown_set _ _ _ _) ⟨h2.o.n, o2, OwnE.nil_⟩ (big_any _ _ _ _)
theorem big_cells (h : ZSt w W p B (bigMv R S N K)) : W.cell? ⟨B, 2, none⟩ = some (.slice (some ⟨K, 0, none⟩) 1 1) ∧ W.cell? ⟨K, 0, none⟩ = some (.int .i64 R) ∧ W.cell? ⟨K, 1, none⟩ = some (.int .i64 S) := by
  have hr := (OwnM.rdA h.o.m).1
  obtain ⟨b, off, e, hc⟩ := hr.here (by simp [bigMv])
  have e2 : some (⟨K, 0, none⟩ : Addr) = some ⟨b, off, none⟩ := e
  cases e2
  have h0 := hc 0 (by simp [bigMv])
  exact ⟨h.b.all.2.2.1, h0.c0, h0.c1⟩
theorem big_aside (h : ZSt w W p B (bigMv R S N K)) (hp : p < w.heap.size) (o : OwnE ES W (w.heap.size + 1) vv t) (g : W.grownBy W' vv.ownBlock) : ZSt w W' p B (bigMv R S N K) := by
  have hB := h.hB
  have hb : Below (w.heap.size + 1) W W' := (Below.refl _ _).grown g (Nat.le_trans hB (Nat.le_of_lt h.b.lt)) (fun k e => (o.block k e).1)
  exact ⟨grown_step h.g hb (Nat.le_succ _), h.s.belowB hb (by omega), h.r.below hb (Nat.lt_succ_self _),
    bx_at (World.ownsRow.kept (bx_of h.b (Nat.le_refl _)) g (rows_or (bx_of h.b (Nat.le_refl _)) o (by decide))),
    ⟨h.o.n.only g (rows_or h.o.n o (by decide)), ⟨World.ownsRow.kept h.o.m.row g (rows_or h.o.m.row o (by decide)), fun c hc => (h.o.m.nx c hc).only g (rows_or (h.o.m.nx c hc) o (by decide)), h.o.m.apart⟩, OwnE.nil_⟩, h.hB, h.a⟩
end
set_option linter.unusedSimpArgs false in
set_option maxRecDepth 100000 in
set_option maxHeartbeats 8000000 in
theorem l13DrawAny_any (p : Nat) (w : World) (hs : Src 172 w p) : Calls Tryz.prog 123 #[.pointer (some ⟨p, 0, none⟩)] w (DrawnAM w p) := by
  have hp := hs.lt
  have hb0 : Below w.heap.size w (w.alloc (.cells #[.int .i64 0, .slice none 0 0, .slice none 0 0, .slice none 0 0] 28)) := (Below.refl _ _).alloc (Nat.le_refl _) _
  have HR0 := Lib.hid (show MvAt 28 (w.alloc (.cells #[.int .i64 0, .slice none 0 0, .slice none 0 0, .slice none 0 0] 28)) w.heap.size Mv.zero from MvAt.new (v := Mv.zero) w)
  have HS0 := Lib.hid (hs.below hb0); have HG0 := Lib.hid (grown_of_below (g := some p) hb0)
  have hz0 : (w.alloc (.cells #[.int .i64 0, .slice none 0 0, .slice none 0 0, .slice none 0 0] 28)).heap.size = w.heap.size + 1 := World.size_alloc ..
  clear hs hb0
  go_enter Tryz.func123, Tryz.ntmps123
  go_upto_region 1 with fail
  generalize w.alloc (.cells #[.int .i64 0, .slice none 0 0, .slice none 0 0, .slice none 0 0] 28) = w1 at HR0 HS0 HG0 hz0 ⊢
  go_wp2_with fail
  refine (l13Draw_any _ _ HS0.out).mono ?_
  rintro e w2 ⟨v0, rfl, o2, hd, hs2, g2⟩
  rw [hz0] at o2
  have HD := Lib.hid hd
  have b3 := (Below.refl w2.heap.size w2).alloc (Nat.le_refl _) (.cells #[.int .i64 v0.id, .slice v0.no v0.n.length v0.nc, .slice v0.mo v0.cs.length v0.mc, .slice v0.eo v0.e.length v0.ec] 28)
  have hr2 := HR0.out.grown g2 (fun e => by injection e with e; omega)
  have HZ0 := Lib.hid (show ZSt w (w2.alloc (.cells #[.int .i64 v0.id, .slice v0.no v0.n.length v0.nc, .slice v0.mo v0.cs.length v0.mc, .slice v0.eo v0.e.length v0.ec] 28)) p w2.heap.size v0 from ⟨grown_trans (grown_trans HG0.out g2) (grown_of_below b3), hs2.below b3, hr2.below b3 hr2.lt, MvAt.new w2, o2.below b3, hr2.lt, hd.any⟩)
  have he0 := hd.e0; have he1 := hd.e1
  clear o2 hd hs2 g2 HR0 HS0 HG0 b3 hr2 hz0
  unfold mvVal
  go_upto_region 2 with fail
  generalize w2.alloc (.cells #[.int .i64 v0.id, .slice v0.no v0.n.length v0.nc, .slice v0.mo v0.cs.length v0.mc, .slice v0.eo v0.e.length v0.ec] 28) = w3 at HZ0 ⊢
  generalize hBX : w2.heap.size = B at HZ0 ⊢
  clear hBX
  obtain ⟨q0, q1, q2, q3⟩ := HZ0.out.b.all
  go_wp2_with fail
  refine (next_any _ _ _ HZ0.out.s (by omega)).mono ?_
  rintro e w4 ⟨k, rfl, hk0, hk1, hk3, hs4, g4⟩
  have hk2 : k < (v0.e.length : Int) := by
    rcases Int.lt_or_le 1 (v0.e.length : Int) with h | h
    · exact hk1 h
    · have := hk3 h; omega
  obtain ⟨k, rfl⟩ := Int.eq_ofNat_of_zero_le hk0
  have HZ4 := Lib.hid (HZ0.out.draw hp hs4 g4)
  clear hk0 hk1 hk3 hs4 g4 HZ0 q0 q1 q2 q3
  go_wp2_with fail
  refine (next_any _ _ _ HZ4.out.s (by omega)).mono ?_
  rintro e w5 ⟨x, rfl, hx0, hx1, -, hs5, g5⟩
  have HZ5 := Lib.hid (HZ4.out.draw hp hs5 g5)
  clear hx0 hx1 hs5 g5 HZ4
  go_upto_block 0 with fail
  have hkn : k < v0.e.length := by omega
  go_cut [] (fun wx => ∃ wy, wy = wx ∧ ∃ v, Hid (ZFin w wy p B v))
  case first =>
    by_cases h0 : x = 0
    · subst h0
      have b6 := (Below.refl w5.heap.size w5).alloc (Nat.le_refl _) (.cells #[.int .i64 0, .int .i64 16777215, .int .i64 16777216] 2)
      have HZ6 := Lib.hid (HZ5.out.call b6)
      have hrd := rd_three (T := 2) 0 16777215 16777216 w5
      have hlt6 : w5.heap.size < (w5.alloc (.cells #[.int .i64 0, .int .i64 16777215, .int .i64 16777216] 2)).heap.size := by rw [World.size_alloc]; omega
      have hpw := HZ5.out.s.lt
      clear HZ5 b6
      go_wp2_with fail
      generalize w5.alloc (.cells #[.int .i64 0, .int .i64 16777215, .int .i64 16777216] 2) = w6 at HZ6 hrd hlt6 ⊢
      generalize w5.heap.size = K at hrd hlt6 hpw ⊢
      refine (next_any _ _ _ HZ6.out.s (by omega)).mono ?_
      rintro e w7 ⟨y, rfl, hy0, hy1, -, hs7, g7⟩
      have hy3 : y < 3 := hy1 (by omega)
      obtain ⟨y, rfl⟩ := Int.eq_ofNat_of_zero_le hy0
      obtain ⟨_, _, e', hc⟩ := (hrd.only g7 (fun b off e => by cases e; intro h; injection h with h; omega)).here (by omega)
      cases e'
      have hcy := hc y (by omega)
      rw [Nat.zero_add] at hcy
      generalize [(0 : Int), 16777215, 16777216].getD y 0 = u at hcy
      have HZ7 := Lib.hid (HZ6.out.draw hp hs7 g7)
      clear hy0 hy1 hs7 g7 hrd hc HZ6 hlt6
      obtain ⟨q0, q1, q2, q3⟩ := HZ7.out.b.all
      have f0 := HZ7.out.b.f 0
      have HF := Lib.hid (HZ7.out.box hp (HZ7.out.b.set0 u) (grown_set w7 B 0 (.int .i64 u)) ⟨HZ7.out.o.n, HZ7.out.o.m, HZ7.out.o.e⟩ ⟨HZ7.out.a.nl, HZ7.out.a.nm, HZ7.out.a.cs, HZ7.out.a.el⟩).fin
      go_wp2_with fail
      go_meet
      exact ⟨_, rfl, _, HF⟩
    have hb0 : (x == 0) = false := by simp [h0]
    by_cases h1 : x = 1
    · subst h1
      go_wp2_with fail
      refine (l10DrawAny_any _ _ HZ5.out.s).mono ?_
      rintro e w7 ⟨vt, t, rfl, o7, ⟨ht1, ht2⟩, hs7, g7⟩
      have hsz := HZ5.out.b.lt
      have hBB := HZ5.out.hB
      have HZ7 := Lib.hid (HZ5.out.draw hp hs7 g7)
      obtain ⟨ao, ac, rfl, o7, -⟩ := o7.get
      have HO := Lib.hid (show OwnN EN w7 (w.heap.size + 1) (.slice ao t.length ac) t from o7.more (by omega))
      clear hs7 g7 HZ5 o7 hsz hBB
      obtain ⟨q0, q1, q2, q3⟩ := HZ7.out.b.all
      have f1 := HZ7.out.b.f 1
      have HF := Lib.hid (HZ7.out.box hp (HZ7.out.b.set1 t ao ac) (grown_set w7 B 1 (.slice ao t.length ac)) ⟨HO.out, HZ7.out.o.m, HZ7.out.o.e⟩ ⟨ht1, ht2, HZ7.out.a.cs, HZ7.out.a.el⟩).fin
      go_wp2_with fail
      go_meet
      exact ⟨_, rfl, _, HF⟩
    have hb1 : (x == 1) = false := by simp [h1]
    by_cases h2 : x = 2
    · subst h2
      go_wp2_with fail
      refine (l11DrawAny_cap _ _ HZ5.out.s).mono ?_
      rintro e w7 ⟨ao, n7, ac, cs, rfl, rd7, lo7, an7, hs7, g7, hc7, hc8⟩
      have hsz := HZ5.out.b.lt
      have hBB := HZ5.out.hB
      have hln := rd7.len
      subst hln
      have HZ7 := Lib.hid (HZ5.out.draw hp hs7 g7)
      have HRM := Lib.hid rd7; have HLM := Lib.hid lo7; have HAN := Lib.hid an7
      clear hs7 g7 rd7 lo7 an7
      obtain ⟨q0, q1, q2, q3⟩ := HZ7.out.b.all
      have f2 := HZ7.out.b.f 2
      have gs := grown_set w7 B 2 (.slice ao cs.length ac)
      have hb7 : Below (w.heap.size + 1) w7 (w7.setCell ⟨B, 2, none⟩ (.slice ao cs.length ac)) := (Below.refl _ _).setCell (p := ⟨B, 2, none⟩) hBB _
      have hlo := HZ7.out.o.lowMe
      have HF := Lib.hid (show ZFin w (w7.setCell ⟨B, 2, none⟩ (.slice ao cs.length ac)) p B ⟨v0.id, v0.n, v0.no, v0.nc, cs, ao, ac, v0.e, v0.eo, v0.ec⟩ from
        ⟨grown_step HZ7.out.g hb7 (Nat.le_succ _), HZ7.out.s.belowB hb7 (by omega), HZ7.out.r.below hb7 (Nat.lt_succ_self _), HZ7.out.b.set2 cs ao ac,
         ⟨(HZ7.out.o.n.only gs (or_ne (fun e => ownsRow_ne HZ7.out.o.n HZ7.out.b (by decide) e))).rdA, HRM.out.far HLM.out gs hsz, (HZ7.out.o.e.only gs (or_ne (fun e => ownsRow_ne HZ7.out.o.e HZ7.out.b (by decide) e))).rdA, hlo.ln, HLM.out.more (by omega), hlo.le, hlo.cn, ⟨hc7, hc8⟩, hlo.ce⟩,
         ⟨HZ7.out.a.nl, HZ7.out.a.nm, HAN.out, HZ7.out.a.el⟩⟩)
      clear gs hb7 hlo
      go_wp2_with fail
      go_meet
      exact ⟨_, rfl, _, HF⟩
    have hb2 : (x == 2) = false := by simp [h2]
    by_cases h3 : x = 3
    · subst h3
      obtain ⟨ge, hge, -⟩ := HZ5.out.o.e.someE (by omega)
      have hec := HZ5.out.o.e.cap
      have hre := HZ5.out.o.e.rdA
      rw [hge] at hre
      have hBB := HZ5.out.hB
      have hgB := HZ5.out.o.e.lowA ge 0 hge
      obtain ⟨q0, q1, q2, q3⟩ := HZ5.out.b.all
      rw [hge] at q3
      have f3 := HZ5.out.b.f 3
      have hlo := HZ5.out.o.lowMe
      have hl1 : (v0.e.drop 1).length = v0.e.length - 1 := by rw [List.length_drop]
      obtain ⟨n1, hn1⟩ : ∃ n1, v0.e.length = n1 + 1 := ⟨v0.e.length - 1, by omega⟩
      obtain ⟨c1, hc1⟩ : ∃ c1, v0.ec = c1 + 1 := ⟨v0.ec - 1, by omega⟩
      have hdl : (v0.e.drop 1).length = n1 := by omega
      have hrd := hre.from_ (c := 1) (by omega)
      rw [show v0.e.length - 1 = n1 by omega] at hrd
      have HRD := Lib.hid hrd
      have HHL := Lib.hid hlo
      have hcb : c1 ≤ 9223372036854775807 := by omega
      have hnc : n1 ≤ c1 := by omega
      rw [hn1, hc1] at q3
      have HDL := Lib.hid hdl
      have HE200 := Lib.hid (show n1 ≤ 200 by omega)
      have HGE := Lib.hid hge
      clear hl1 hre hec hlo hrd hdl hn1 hc1 hge
      have i1 : (1 : Int) ≤ (n1 : Int) + 1 := by omega
      have i2 : (n1 : Int) + 1 ≤ (c1 : Int) + 1 := by omega
      have i3 : (1 : Int) ≤ (c1 : Int) + 1 := by omega
      have HFA := Lib.hid (fun (ao : Option Addr) (hra : RdE w5 ao n1 (v0.e.drop 1)) (hla : ∀ b off, ao = some ⟨b, off, none⟩ → w.heap.size + 1 ≤ b) (hne : ∀ b off, ao = some ⟨b, off, none⟩ → some B ≠ some b) => (show ZFin w (w5.setCell ⟨B, 3, none⟩ (.slice ao n1 c1)) p B ⟨v0.id, v0.n, v0.no, v0.nc, v0.cs, v0.mo, v0.mc, v0.e.drop 1, ao, c1⟩ from by
        have gs := grown_set w5 B 3 (.slice ao n1 c1)
        have hb7 : Below (w.heap.size + 1) w5 (w5.setCell ⟨B, 3, none⟩ (.slice ao n1 c1)) := (Below.refl _ _).setCell (p := ⟨B, 3, none⟩) hBB _
        have hs3 := HZ5.out.b.set3 (v0.e.drop 1) ao c1
        rw [HDL.out] at hs3
        exact ⟨grown_step HZ5.out.g hb7 (Nat.le_succ _), HZ5.out.s.belowB hb7 (by omega), HZ5.out.r.below hb7 (Nat.lt_succ_self _), hs3,
         ⟨(HZ5.out.o.n.only gs (or_ne (fun e => ownsRow_ne HZ5.out.o.n HZ5.out.b (by decide) e))).rdA, (OwnM.rdA (HZ5.out.o.other HZ5.out.b gs).m).1, by rw [HDL.out]; exact hra.only gs hne, HHL.out.ln, HHL.out.lm, hla, HHL.out.cn, HHL.out.cm, by rw [HDL.out]; exact ⟨hnc, hcb⟩⟩,
         ⟨HZ5.out.a.nl, HZ5.out.a.nm, HZ5.out.a.cs, by show (v0.e.drop 1).length ≤ 200; rw [HDL.out]; exact HE200.out⟩⟩))
      have hneB : B ≠ ge := fun e => ownsRow_ne HZ5.out.o.e HZ5.out.b (by decide) (by rw [e]; unfold Mv.ve; rw [HGE.out]; rfl)
      by_cases hcz : c1 = 0
      · subst hcz
        have hn0 : n1 = 0 := by omega
        subst hn0
        have hr0 : RdE w5 (some ⟨ge, 0, none⟩) 0 (v0.e.drop 1) := ⟨HDL.out, fun h => absurd h (by omega)⟩
        go_wp2_with fail
        go_meet
        exact ⟨_, rfl, _, Lib.hid (HFA.out _ hr0 (fun b off e => by cases e; exact hgB) (fun b off e => by cases e; exact fun h => hneB (by injection h)))⟩
      · have hcz' : ¬ ((c1 : Int) = 0) := by omega
        go_wp2_with fail
        go_meet
        exact ⟨_, rfl, _, Lib.hid (HFA.out _ HRD.out (fun b off e => by cases e; exact hgB) (fun b off e => by cases e; exact fun h => hneB (by injection h)))⟩
    have hb3 : (x == 3) = false := by simp [h3]
    by_cases h4 : x = 4
    · subst h4
      obtain ⟨ge, hge, -⟩ := HZ5.out.o.e.someE (by omega)
      have hec := HZ5.out.o.e.cap
      obtain ⟨q0, q1, q2, q3⟩ := HZ5.out.b.all
      rw [hge] at q3
      have hki : (k : Int) < (v0.e.length : Int) := by omega
      have hkc : (k : Int) < (v0.ec : Int) := by omega
      have hin := HZ5.out.in_ hge hkn
      obtain ⟨⟨s0, s1, s2, ⟨s3, s4, s5, s6, s7⟩⟩, hxe⟩ : ∃ x, slOf v0.e k = x := ⟨_, rfl⟩
      rw [hxe] at hin
      obtain ⟨c0, c1, c2, c3, c4, c5, c6, c7⟩ := hin
      dsimp only at c0 c1 c2 c3 c4 c5 c6 c7
      have HXE := Lib.hid hxe; have HGE := Lib.hid hge
      clear hxe
      have hdw := Below.drew (Below.refl w5.heap.size w5)
      have HZD := Lib.hid (HZ5.out.call hdw)
      have qd : w5.drew.cell? ⟨B, 3, none⟩ = some (.slice (some ⟨ge, 0, none⟩) v0.e.length v0.ec) := q3
      clear hdw hge hec c0 c1 c2 c3 c4 c5 c6 c7 q0 q1 q2 q3 HZ5
      go_upto_region 13 with fail
      refine wp_region_held_drew (S := fun w' => w'.cell? ⟨B, 3, none⟩ = some (.slice (some ⟨ge, 0, none⟩) v0.e.length v0.ec)) (by kernel_rfl) (qd) (fun hHeld => ?_)
      generalize w5.drew = wd at HZD qd hHeld ⊢
      refine tk (i := 0) (v := ?_) rfl (Or.inl ⟨by rfl, ?_⟩) (by assumption) ?_
      rotate_left
      · (intro w hSw; (try dsimp only at hSw); go_simp; (try with_reducible rfl))
      try simp only [pa, pb, pc, Act.put, pe, pf, pg]
      refine tk (i := 1) (v := ?_) rfl (Or.inl ⟨by rfl, ?_⟩) (by assumption) ?_
      rotate_left
      · (intro w hSw; (try dsimp only at hSw); go_simp; (try with_reducible rfl))
      try simp only [pa, pb, pc, Act.put, pe, pf, pg]
      refine tk (i := 2) (v := ?_) rfl (Or.inl ⟨by rfl, ?_⟩) (by assumption) ?_
      rotate_left
      · (intro w hSw; (try dsimp only at hSw); go_simp; (try with_reducible rfl))
      try simp only [pa, pb, pc, Act.put, pe, pf, pg]
      refine tk (i := 3) (v := ?_) rfl (Or.inl ⟨by rfl, ?_⟩) (by assumption) ?_
      rotate_left
      · (intro w hSw; (try dsimp only at hSw); go_simp; (try with_reducible rfl))
      try simp only [pa, pb, pc, Act.put, pe, pf, pg]
      refine wpAnyH_ready (rs := [4]) (by kernel_rfl) (by simp) (AllReadyH.cons rfl (fun K hK => ?_) AllReadyH.nil)
      go_simp
      refine (l08DrawAny_any _ _ HZD.out.s).mono ?_
      rintro e w7 ⟨a0, a1, a2, a3, a4, rfl, hs7, g7⟩
      have HZ7 := Lib.hid (HZD.out.draw hp hs7 g7)
      have q7 := HZ7.out.b.all.2.2.2
      rw [HGE.out] at q7
      clear hs7 g7 HZD qd
      have zf := HZ7.out.desc hp HGE.out hkn HXE.out ⟨a0, a1, a2, a3, a4⟩
      have HF := Lib.hid zf.fin
      have qf := HZ7.out.keep HGE.out (grown_setDsZ w7 ge (k * 8 + 3) ⟨a0, a1, a2, a3, a4⟩)
      have hin := HZ7.out.in_ HGE.out hkn
      rw [HXE.out] at hin
      obtain ⟨-, -, -, c3, c4, c5, c6, c7⟩ := hin
      have hfz := HZ7.out.frozen HGE.out (by omega)
      have d4 : w7.cell? ⟨ge, k * 8 + 3 + 1, none⟩ = some (.int .i64 s4) := c4
      have d5 : w7.cell? ⟨ge, k * 8 + 3 + 2, none⟩ = some (.int .i64 s5) := c5
      have d6 : w7.cell? ⟨ge, k * 8 + 3 + 3, none⟩ = some (.int .i64 s6) := c6
      have d7 : w7.cell? ⟨ge, k * 8 + 3 + 4, none⟩ = some (.bool s7) := c7
      dsimp only at c3
      unfold setDsZ at HF qf
      dsimp only at HF qf
      clear zf c4 c5 c6 c7
      go_wp2_with fail
      refine hK.out _ _ ?_ (fun hHeld => ?_)
      · exact q7
      clear hK K
      try simp only [pa, pb, pc, Act.put, pe, pf, pg]
      refine tk (i := 5) (v := ?_) rfl (Or.inl ⟨by rfl, ?_⟩) (by assumption) ?_
      rotate_left
      · (intro w hSw; (try dsimp only at hSw); go_simp; (try with_reducible rfl))
      try simp only [pa, pb, pc, Act.put, pe, pf, pg]
      refine tk (i := 6) (v := ?_) rfl (Or.inl ⟨by rfl, ?_⟩) (by assumption) ?_
      rotate_left
      · (intro w hSw; (try dsimp only at hSw); go_simp; (try with_reducible rfl))
      try simp only [pa, pb, pc, Act.put, pe, pf, pg]
      refine wpAnyH_ready (rs := [7]) (by kernel_rfl) (by simp) (AllReadyH.cons rfl (fun K hK => ?_) AllReadyH.nil)
      go_simp
      refine hK.out _ _ ?_ (fun hHeld => ?_)
      · exact qf
      clear hK K
      try simp only [pa, pb, pc, Act.put, pe, pf, pg]
      refine wpAnyH_done (by kernel_rfl) ?_ _
      go_wp2_with fail
      go_meet
      exact ⟨_, rfl, _, HF⟩
    have hb4 : (x == 4) = false := by simp [h4]
    by_cases h5 : x = 5
    · subst h5
      obtain ⟨ge, hge, -⟩ := HZ5.out.o.e.someE (by omega)
      have hec := HZ5.out.o.e.cap
      obtain ⟨q0, q1, q2, q3⟩ := HZ5.out.b.all
      rw [hge] at q3
      have hki : (k : Int) < (v0.e.length : Int) := by omega
      have hkc : (k : Int) < (v0.ec : Int) := by omega
      have hin := HZ5.out.in_ hge hkn
      obtain ⟨⟨s0, s1, s2, ⟨s3, s4, s5, s6, s7⟩⟩, hxe⟩ : ∃ x, slOf v0.e k = x := ⟨_, rfl⟩
      rw [hxe] at hin
      obtain ⟨c0, c1, c2, c3, c4, c5, c6, c7⟩ := hin
      dsimp only at c0 c1 c2 c3 c4 c5 c6 c7
      have HXE := Lib.hid hxe; have HGE := Lib.hid hge
      clear hxe
      have hd := Below.drew (Below.refl w5.heap.size w5)
      obtain ⟨ff, z6⟩ := (HZ5.out.call hd).field (j := 6) (u := .int .i64 (IntKind.i64.wrap (s6 + 1))) (y := ⟨s0, s1, s2, ⟨s3, s4, s5, IntKind.i64.wrap (s6 + 1), s7⟩⟩) hp hge hkn (by omega) (by rw [HXE.out]; rfl)
      have HF := Lib.hid (show ZFin w (w5.drew.setCell ⟨ge, k * 8 + 3 + 3, none⟩ (.int .i64 (IntKind.i64.wrap (s6 + 1)))) p B _ from z6.fin)
      have d6 : w5.cell? ⟨ge, k * 8 + 3 + 3, none⟩ = some (.int .i64 s6) := c6
      have d6' : w5.drew.cell? ⟨ge, k * 8 + 3 + 3, none⟩ = some (.int .i64 s6) := c6
      have ff' : w5.drew.frozen? ⟨ge, k * 8 + 3 + 3, none⟩ = false := ff
      obtain ⟨u6, hu6⟩ : ∃ u, IntKind.i64.wrap (s6 + 1) = u := ⟨_, rfl⟩
      rw [hu6] at HF
      clear z6 hge hec c0 c1 c2 c3 c4 c5 c7 q0 q1 q2 hd ff
      go_upto_region 15 with fail
      go_still_tail 14, (by kernel_rfl)
      change wpList _ _ _ _ _ w5.drew
      generalize w5.drew = wd at HF d6' ff' ⊢
      go_wp2_with fail
      go_meet
      exact ⟨_, rfl, _, HF⟩
    have hb5 : (x == 5) = false := by simp [h5]
    by_cases h6 : x = 6
    · subst h6
      obtain ⟨ge, hge, -⟩ := HZ5.out.o.e.someE (by omega)
      have hec := HZ5.out.o.e.cap
      obtain ⟨q0, q1, q2, q3⟩ := HZ5.out.b.all
      rw [hge] at q3
      have hki : (k : Int) < (v0.e.length : Int) := by omega
      have hkc : (k : Int) < (v0.ec : Int) := by omega
      have hin := HZ5.out.in_ hge hkn
      obtain ⟨⟨s0, s1, s2, ⟨s3, s4, s5, s6, s7⟩⟩, hxe⟩ : ∃ x, slOf v0.e k = x := ⟨_, rfl⟩
      rw [hxe] at hin
      obtain ⟨c0, c1, c2, c3, c4, c5, c6, c7⟩ := hin
      dsimp only at c0 c1 c2 c3 c4 c5 c6 c7
      have HXE := Lib.hid hxe; have HGE := Lib.hid hge
      clear hxe
      have hdw := Below.drew (Below.refl w5.heap.size w5)
      have HZD := Lib.hid (HZ5.out.call hdw)
      have qd : w5.drew.cell? ⟨B, 3, none⟩ = some (.slice (some ⟨ge, 0, none⟩) v0.e.length v0.ec) := q3
      clear hdw hge hec c0 c1 c2 c3 c4 c5 c6 c7 q0 q1 q2 q3 HZ5
      go_upto_region 17 with fail
      refine wp_region_held_drew (S := fun w' => w'.cell? ⟨B, 3, none⟩ = some (.slice (some ⟨ge, 0, none⟩) v0.e.length v0.ec)) (by kernel_rfl) (qd) (fun hHeld => ?_)
      generalize w5.drew = wd at HZD qd hHeld ⊢
      refine tk (i := 0) (v := ?_) rfl (Or.inl ⟨by rfl, ?_⟩) (by assumption) ?_
      rotate_left
      · (intro w hSw; (try dsimp only at hSw); go_simp; (try with_reducible rfl))
      try simp only [pa, pb, pc, Act.put, pe, pf, pg]
      refine tk (i := 1) (v := ?_) rfl (Or.inl ⟨by rfl, ?_⟩) (by assumption) ?_
      rotate_left
      · (intro w hSw; (try dsimp only at hSw); go_simp; (try with_reducible rfl))
      try simp only [pa, pb, pc, Act.put, pe, pf, pg]
      refine tk (i := 2) (v := ?_) rfl (Or.inl ⟨by rfl, ?_⟩) (by assumption) ?_
      rotate_left
      · (intro w hSw; (try dsimp only at hSw); go_simp; (try with_reducible rfl))
      try simp only [pa, pb, pc, Act.put, pe, pf, pg]
      refine tk (i := 3) (v := ?_) rfl (Or.inl ⟨by rfl, ?_⟩) (by assumption) ?_
      rotate_left
      · (intro w hSw; (try dsimp only at hSw); go_simp; (try with_reducible rfl))
      try simp only [pa, pb, pc, Act.put, pe, pf, pg]
      refine wpAnyH_ready (rs := [4]) (by kernel_rfl) (by simp) (AllReadyH.cons rfl (fun K hK => ?_) AllReadyH.nil)
      go_simp
      refine (next_any _ _ _ HZD.out.s (by omega)).mono ?_
      rintro e w7 ⟨u, rfl, -, -, -, hs7, g7⟩
      have HZ7 := Lib.hid (HZD.out.draw hp hs7 g7)
      have q7 := HZ7.out.b.all.2.2.2
      rw [HGE.out] at q7
      clear hs7 g7 HZD qd
      obtain ⟨ff, zf⟩ := HZ7.out.field (j := 3) (u := .int .i64 u) (y := ⟨s0, s1, s2, ⟨u, s4, s5, s6, s7⟩⟩) hp HGE.out hkn (by omega) (by rw [HXE.out]; rfl)
      have HF := Lib.hid (show ZFin w (w7.setCell ⟨ge, k * 8 + 3, none⟩ (.int .i64 u)) p B _ from zf.fin)
      have qf := HZ7.out.keep HGE.out (grown_set w7 ge (k * 8 + 3) (.int .i64 u))
      have hc3 := (HZ7.out.in_ HGE.out hkn).c3
      rw [HXE.out] at hc3
      dsimp only at hc3
      clear zf
      go_wp2_with fail
      refine hK.out _ _ ?_ (fun hHeld => ?_)
      · exact q7
      clear hK K
      try simp only [pa, pb, pc, Act.put, pe, pf, pg]
      refine tk (i := 5) (v := ?_) rfl (Or.inl ⟨by rfl, ?_⟩) (by assumption) ?_
      rotate_left
      · (intro w hSw; (try dsimp only at hSw); go_simp; (try with_reducible rfl))
      try simp only [pa, pb, pc, Act.put, pe, pf, pg]
      refine tk (i := 6) (v := ?_) rfl (Or.inl ⟨by rfl, ?_⟩) (by assumption) ?_
      rotate_left
      · (intro w hSw; (try dsimp only at hSw); go_simp; (try with_reducible rfl))
      try simp only [pa, pb, pc, Act.put, pe, pf, pg]
      refine tk (i := 7) (v := ?_) rfl (Or.inl ⟨by rfl, ?_⟩) (by assumption) ?_
      rotate_left
      · (intro w hSw; (try dsimp only at hSw); go_simp; (try with_reducible rfl))
      try simp only [pa, pb, pc, Act.put, pe, pf, pg]
      refine wpAnyH_ready (rs := [8]) (by kernel_rfl) (by simp) (AllReadyH.cons rfl (fun K hK => ?_) AllReadyH.nil)
      go_simp
      refine hK.out _ _ ?_ (fun hHeld => ?_)
      · exact qf
      clear hK K
      try simp only [pa, pb, pc, Act.put, pe, pf, pg]
      refine wpAnyH_done (by kernel_rfl) ?_ _
      go_wp2_with fail
      go_meet
      exact ⟨_, rfl, _, HF⟩
    have hb6 : (x == 6) = false := by simp [h6]
    by_cases h7 : x = 7
    · subst h7
      obtain ⟨ge, hge, -⟩ := HZ5.out.o.e.someE (by omega)
      have hec := HZ5.out.o.e.cap
      obtain ⟨q0, q1, q2, q3⟩ := HZ5.out.b.all
      rw [hge] at q3
      have hki : (k : Int) < (v0.e.length : Int) := by omega
      have hkc : (k : Int) < (v0.ec : Int) := by omega
      have hin := HZ5.out.in_ hge hkn
      obtain ⟨⟨s0, s1, s2, ⟨s3, s4, s5, s6, s7⟩⟩, hxe⟩ : ∃ x, slOf v0.e k = x := ⟨_, rfl⟩
      rw [hxe] at hin
      obtain ⟨c0, c1, c2, c3, c4, c5, c6, c7⟩ := hin
      dsimp only at c0 c1 c2 c3 c4 c5 c6 c7
      have HXE := Lib.hid hxe; have HGE := Lib.hid hge
      clear hxe
      obtain ⟨fa, za⟩ := HZ5.out.field (j := 4) (u := .int .i64 3) (y := ⟨s0, s1, s2, ⟨s3, 3, s5, s6, s7⟩⟩) hp hge hkn (by omega) (by rw [HXE.out]; rfl)
      have HZA := Lib.hid (show ZSt w (w5.setCell ⟨ge, k * 8 + 3 + 1, none⟩ (.int .i64 3)) p B (v0.withE (v0.e.set k ⟨s0, s1, s2, ⟨s3, 3, s5, s6, s7⟩⟩)) from za)
      have q4 := HZ5.out.keep hge (grown_set w5 ge (k * 8 + 3 + 1) (.int .i64 3))
      have d4 : w5.cell? ⟨ge, k * 8 + 3 + 1, none⟩ = some (.int .i64 s4) := c4
      have fa' : w5.frozen? ⟨ge, k * 8 + 3 + 1, none⟩ = false := fa
      have hxa : slOf (v0.e.set k ⟨s0, s1, s2, ⟨s3, 3, s5, s6, s7⟩⟩) k = ⟨s0, s1, s2, ⟨s3, 3, s5, s6, s7⟩⟩ := slOf_same hkn
      have HXA := Lib.hid hxa
      have hle : (v0.withE (v0.e.set k ⟨s0, s1, s2, ⟨s3, 3, s5, s6, s7⟩⟩)).e.length = v0.e.length := List.length_set
      have HLE := Lib.hid hle
      clear za hxa hle fa hge
      go_upto_region 20 with fail
      generalize w5.setCell ⟨ge, k * 8 + 3 + 1, none⟩ (.int .i64 3) = w6 at HZA q4 ⊢
      clear c0 c1 c2 c3 c4 c5 c6 c7 d4 fa' q0 q1 q2 q3 HZ5
      generalize hva : v0.withE (v0.e.set k ⟨s0, s1, s2, ⟨s3, 3, s5, s6, s7⟩⟩) = va at HZA HLE
      have hxa := HXA.out
      have hve : v0.e.set k ⟨s0, s1, s2, ⟨s3, 3, s5, s6, s7⟩⟩ = va.e := by rw [← hva]; rfl
      have hgea : va.eo = some ⟨ge, 0, none⟩ := by rw [← hva]; exact HGE.out
      rw [hve] at hxa
      have hka : k < va.e.length := by rw [HLE.out]; exact hkn
      obtain ⟨fb, zb⟩ := HZA.out.field (j := 5) (u := .int .i64 0) (y := ⟨s0, s1, s2, ⟨s3, 3, 0, s6, s7⟩⟩) hp hgea hka (by omega) (by rw [hxa]; rfl)
      have HZB := Lib.hid (show ZSt w (w6.setCell ⟨ge, k * 8 + 3 + 2, none⟩ (.int .i64 0)) p B (va.withE (va.e.set k ⟨s0, s1, s2, ⟨s3, 3, 0, s6, s7⟩⟩)) from zb)
      have qb := HZA.out.keep hgea (grown_set w6 ge (k * 8 + 3 + 2) (.int .i64 0))
      rw [HLE.out, show va.ec = v0.ec from by rw [← hva]; rfl] at qb
      have hcb := (HZA.out.in_ hgea hka).c5
      rw [hxa] at hcb
      have d5 : w6.cell? ⟨ge, k * 8 + 3 + 2, none⟩ = some (.int .i64 s5) := hcb
      have fb' : w6.frozen? ⟨ge, k * 8 + 3 + 2, none⟩ = false := fb
      have hxb : slOf (va.e.set k ⟨s0, s1, s2, ⟨s3, 3, 0, s6, s7⟩⟩) k = ⟨s0, s1, s2, ⟨s3, 3, 0, s6, s7⟩⟩ := slOf_same hka
      have hlb : (va.withE (va.e.set k ⟨s0, s1, s2, ⟨s3, 3, 0, s6, s7⟩⟩)).e.length = va.e.length := List.length_set
      have HXB := Lib.hid hxb; have HLB := Lib.hid (hlb.trans HLE.out)
      have HGB := Lib.hid hgea
      clear zb fb hcb hxb hlb hxa hve hva hka hgea
      go_upto_region 21 with fail
      generalize w6.setCell ⟨ge, k * 8 + 3 + 2, none⟩ (.int .i64 0) = w7 at HZB qb ⊢
      clear d5 fb' q4 HZA
      generalize hvb : va.withE (va.e.set k ⟨s0, s1, s2, ⟨s3, 3, 0, s6, s7⟩⟩) = vb at HZB HLB
      have hxb := HXB.out
      rw [show va.e.set k ⟨s0, s1, s2, ⟨s3, 3, 0, s6, s7⟩⟩ = vb.e from by rw [← hvb]; rfl] at hxb
      have hgeb : vb.eo = some ⟨ge, 0, none⟩ := by rw [← hvb]; exact HGB.out
      have hkb : k < vb.e.length := by rw [HLB.out]; exact hkn
      obtain ⟨fc, zc⟩ := HZB.out.field (j := 7) (u := .bool false) (y := ⟨s0, s1, s2, ⟨s3, 3, 0, s6, false⟩⟩) hp hgeb hkb (by omega) (by rw [hxb]; rfl)
      have hcc := (HZB.out.in_ hgeb hkb).c7
      rw [hxb] at hcc
      have d7 : w7.cell? ⟨ge, k * 8 + 3 + 4, none⟩ = some (.bool s7) := hcc
      have fc' : w7.frozen? ⟨ge, k * 8 + 3 + 4, none⟩ = false := fc
      have HF := Lib.hid (show ZFin w (w7.setCell ⟨ge, k * 8 + 3 + 4, none⟩ (.bool false)) p B _ from zc.fin)
      clear zc fc hcc hxb hvb hkb hgeb
      go_wp2_with fail
      go_meet
      exact ⟨_, rfl, _, HF⟩
    have hb7 : (x == 7) = false := by simp [h7]
    by_cases h8 : x = 8
    · subst h8
      obtain ⟨ge, hge, -⟩ := HZ5.out.o.e.someE (by omega)
      have HGE := Lib.hid hge
      have hec := HZ5.out.o.e.cap.1
      have hec2 := HZ5.out.o.e.cap.2
      clear hge hk2 hkn
      obtain ⟨L, hL⟩ : ∃ L, L = v0.e.length := ⟨_, rfl⟩
      rw [← hL] at hec he1
      have HL := Lib.hid hL.symm
      have HZS := Lib.hid (show ZSt w w5 p B (v0.withE v0.e) from HZ5.out)
      clear hL HZ5
      go_wp2_with fail
      go_loopw [5] (fun I wr => ∃ (i : Nat) (e' : List Sl), I = .int .i64 (i : Int) ∧ i ≤ L ∧ Hid (e'.length = L) ∧ Hid (ZSt w wr p B (v0.withE e'))) (fun I _ => L - (intOf I).toNat)
      case atStart => exact ⟨0, v0.e, rfl, Nat.zero_le _, HL.out, HZS.out⟩
      case round =>
        clear HZS
        obtain ⟨i, e', rfl, hi, hle, hz⟩ := hrel
        have q3 : wr.cell? ⟨B, 3, none⟩ = some (.slice (some ⟨ge, 0, none⟩) L v0.ec) := by
          have q := hz.out.b.all.2.2.2
          dsimp only [Mv.withE] at q
          rw [HGE.out, hle.out] at q
          exact q
        by_cases hiL : i < L
        · have hii : (i : Int) < (L : Int) := by omega
          have hic : (i : Int) < (v0.ec : Int) := by omega
          have hk : i < (v0.withE e').e.length := by show i < e'.length; rw [hle.out]; exact hiL
          have hin := hz.out.in_ HGE.out hk
          obtain ⟨⟨s0, s1, s2, ⟨s3, s4, s5, s6, s7⟩⟩, hxe⟩ : ∃ x, slOf (v0.withE e').e i = x := ⟨_, rfl⟩
          rw [hxe] at hin
          have d6 : wr.cell? ⟨ge, i * 8 + 3 + 3, none⟩ = some (.int .i64 s6) := hin.c6
          obtain ⟨ff, zf⟩ := hz.out.field (j := 6) (u := .int .i64 1000) (y := ⟨s0, s1, s2, ⟨s3, s4, s5, 1000, s7⟩⟩) hp HGE.out hk (by omega) (by rw [hxe]; rfl)
          have ff' : wr.frozen? ⟨ge, i * 8 + 3 + 3, none⟩ = false := ff
          have HZF := Lib.hid (show ZSt w (wr.setCell ⟨ge, i * 8 + 3 + 3, none⟩ (.int .i64 1000)) p B (v0.withE (e'.set i ⟨s0, s1, s2, ⟨s3, s4, s5, 1000, s7⟩⟩)) from zf)
          have HLF := Lib.hid (show (e'.set i ⟨s0, s1, s2, ⟨s3, s4, s5, 1000, s7⟩⟩).length = L from by rw [List.length_set]; exact hle.out)
          clear hin hxe ff zf hk hz hle
          go_wp2_with fail
          go_roundw
          case rel => exact ⟨i + 1, e'.set i ⟨s0, s1, s2, ⟨s3, s4, s5, 1000, s7⟩⟩, by go_num, by omega, HLF, HZF⟩
          case measure => simp [intOf]; omega
        · have hii : ¬ (i : Int) < (L : Int) := by omega
          have HZL := Lib.hid hz.out
          clear hz hle
          go_wp2_with fail
          clear q3
          refine (next_any _ _ _ HZL.out.s (by omega)).mono ?_
          rintro e w7 ⟨y, rfl, -, -, -, hs7, g7⟩
          have HZ7 := Lib.hid (HZL.out.draw hp hs7 g7)
          clear hs7 g7 HZL
          by_cases hy : y = 0
          rotate_left
          · have hyb : (y == 0) = false := by simp [hy]
            have HF := Lib.hid HZ7.out.fin
            clear HZ7
            go_wp2_with fail
            go_meet
            exact ⟨_, rfl, _, HF⟩
          · subst hy
            have hz8 := big_start HZ7.out hp
            have hcc := (HZ7.out.call (below_new (o := (.cells #[.int .i64 0, .string ⟨#[97]⟩, .int .i64 0, .bool false] EN)))).call (below_new (o := (.cells #[.int .i64 2, .int .i64 16, .slice none 0 0] EM)))
            have hm8 := hcc.b.all
            dsimp only [Mv.withE] at hm8
            obtain ⟨q0, q1, q2, q3⟩ := hm8
            have f0 := hcc.b.f 0; have f1 := hcc.b.f 1; have f2 := hcc.b.f 2; have f3 := hcc.b.f 3
            clear hcc
            have HZ8 := Lib.hid hz8
            clear hz8
            go_upto_region 29 with fail
            change Code.wp _ _ _ _ (setMv ((w7.alloc (.cells #[.int .i64 0, .string ⟨#[97]⟩, .int .i64 0, .bool false] 130)).alloc (.cells #[.int .i64 2, .int .i64 16, .slice none 0 0] 99)) B (bigMv 2 16 w7.heap.size (w7.heap.size + 1)))
            clear q0 q1 q2 q3 f0 f1 f2 f3 HZ7
            generalize setMv ((w7.alloc (.cells #[.int .i64 0, .string ⟨#[97]⟩, .int .i64 0, .bool false] 130)).alloc (.cells #[.int .i64 2, .int .i64 16, .slice none 0 0] 99)) B (bigMv 2 16 w7.heap.size (w7.heap.size + 1)) = w8 at HZ8 ⊢
            generalize w7.heap.size = NB at HZ8 ⊢
            go_wp2_with fail
            refine (next_any _ _ _ HZ8.out.s (by omega)).mono ?_
            rintro e w9 ⟨z, rfl, -, -, -, hs9, g9⟩
            have HZ9 := Lib.hid (HZ8.out.draw hp hs9 g9)
            clear hs9 g9 HZ8
            go_upto_if 121 with fail
            go_cut [] (fun wx => ∃ wy, wy = wx ∧ ∃ (R S K : Nat), ((R = 2 ∧ S = 16) ∨ (R = 3 ∧ S = 11)) ∧ Hid (ZSt w wy p B (bigMv (R : Int) (S : Int) NB K)))
            case first =>
              by_cases hz0 : z = 0
              · subst hz0
                have hc9 := HZ9.out.call (below_new (o := (.cells #[.int .i64 3, .int .i64 11, .slice none 0 0] EM)))
                have f2 := hc9.b.f 2
                have q2 := hc9.b.all.2.2.1
                have HM := Lib.hid (big_mode HZ9.out hp)
                clear hc9
                go_wp2_with fail
                go_meet
                exact ⟨_, rfl, 3, 11, _, .inr ⟨rfl, rfl⟩, HM⟩
              · have hzb : (z == 0) = false := by simp [hz0]
                go_wp2_with fail
                go_meet
                exact ⟨_, rfl, 2, 16, _, .inl ⟨rfl, rfl⟩, HZ9⟩
            case rest =>
            obtain ⟨wa, rfl, R, S, K, hRS, HZA⟩ := hcut
            clear HZ9
            obtain ⟨T, hT, hT33⟩ : ∃ T : Nat, (R : Int) * (S : Int) = (T : Int) ∧ T ≤ 33 := by
              rcases hRS with ⟨rfl, rfl⟩ | ⟨rfl, rfl⟩
              · exact ⟨32, rfl, by omega⟩
              · exact ⟨33, rfl, by omega⟩
            have hS1 : 1 ≤ S := by omega
            have hS2 : S ≤ 16 := by omega
            have hwT : IntKind.i64.wrap ((R : Int) * (S : Int)) = (T : Int) := by rw [hT, IntKind.wrap_i64]; omega
            clear hRS hT
            have hszA := Nat.le_trans HZA.out.hB (Nat.le_of_lt HZA.out.b.lt)
            have HZB := Lib.hid (HZA.out.call (below_new (o := (.cells #[] ES))))
            have HOB := Lib.hid (show OwnE ES (wa.alloc (.cells #[] ES)) (w.heap.size + 1) (.slice (some ⟨wa.heap.size, 0, none⟩) 0 0) [] from OwnE.of_alloc_nil hszA)
            clear HZA hszA
            go_wp2_with fail
            go_loopw [6, 7] (fun V I wr => ∃ (i : Nat) (t : List Sl) (vv : Value), vv = V ∧ I = .int .i64 (i : Int) ∧ i ≤ T ∧ Hid (t.length = i) ∧ Hid (ZSt w wr p B (bigMv (R : Int) (S : Int) NB K)) ∧ Hid (OwnE ES wr (w.heap.size + 1) vv t)) (fun _ I _ => T - (intOf I).toNat)
            case atStart => exact ⟨0, [], _, rfl, rfl, Nat.zero_le _, rfl, HZB.out, HOB.out⟩
            case round =>
              clear HZB HOB
              obtain ⟨i, t, vv, rfl, rfl, hi, htl, hz, ho⟩ := hrel
              have hdw := Below.drew (Below.refl wr.heap.size wr)
              have HZd := Lib.hid (hz.out.call hdw); have HOd := Lib.hid (ho.out.below hdw)
              have hcs := big_cells HZd.out
              clear hz ho hdw
              go_upto_region 33 with fail
              refine wp_region_held_drew (S := fun w' => w'.cell? ⟨B, 2, none⟩ = some (.slice (some ⟨K, 0, none⟩) 1 1) ∧ w'.cell? ⟨K, 0, none⟩ = some (.int .i64 (R : Int)) ∧ w'.cell? ⟨K, 1, none⟩ = some (.int .i64 (S : Int))) (by kernel_rfl) (hcs) (fun hHeld => ?_)
              generalize wr.drew = wd at HZd HOd hcs hHeld ⊢
              refine tk (i := 0) (v := ?_) rfl (Or.inl ⟨by rfl, ?_⟩) (by assumption) ?_
              rotate_left
              · (intro w hSw; (try dsimp only at hSw); go_simp; (try with_reducible rfl))
              try simp only [pa, pb, pc, Act.put, pe, pf, pg]
              refine tk (i := 1) (v := ?_) rfl (Or.inl ⟨by rfl, ?_⟩) (by assumption) ?_
              rotate_left
              · (intro w hSw; (try dsimp only at hSw); go_simp; (try with_reducible rfl))
              try simp only [pa, pb, pc, Act.put, pe, pf, pg]
              refine tk (i := 2) (v := ?_) rfl (Or.inl ⟨by rfl, ?_⟩) (by assumption) ?_
              rotate_left
              · (intro w hSw; (try dsimp only at hSw); go_simp; (try with_reducible rfl))
              try simp only [pa, pb, pc, Act.put, pe, pf, pg]
              refine tk (i := 3) (v := ?_) rfl (Or.inl ⟨by rfl, ?_⟩) (by assumption) ?_
              rotate_left
              · (intro w hSw; (try dsimp only at hSw); go_simp; (try with_reducible rfl))
              try simp only [pa, pb, pc, Act.put, pe, pf, pg]
              refine tk (i := 4) (v := ?_) rfl (Or.inl ⟨by rfl, ?_⟩) (by assumption) ?_
              rotate_left
              · (intro w hSw; (try dsimp only at hSw); go_simp; (try with_reducible rfl))
              try simp only [pa, pb, pc, Act.put, pe, pf, pg]
              refine tk (i := 5) (v := ?_) rfl (Or.inl ⟨by rfl, ?_⟩) (by assumption) ?_
              rotate_left
              · (intro w hSw; (try dsimp only at hSw); go_simp; (try with_reducible rfl))
              try simp only [pa, pb, pc, Act.put, pe, pf, pg]
              refine tk (i := 6) (v := ?_) rfl (Or.inl ⟨by rfl, ?_⟩) (by assumption) ?_
              rotate_left
              · (intro w hSw; (try dsimp only at hSw); go_simp; (try with_reducible rfl))
              try simp only [pa, pb, pc, Act.put, pe, pf, pg]
              refine tk (i := 7) (v := ?_) rfl (Or.inl ⟨by rfl, ?_⟩) (by assumption) ?_
              rotate_left
              · (intro w hSw; (try dsimp only at hSw); go_simp; (try with_reducible rfl))
              try simp only [pa, pb, pc, Act.put, pe, pf, pg]
              refine tk (i := 8) (v := ?_) rfl (Or.inl ⟨by rfl, ?_⟩) (by assumption) ?_
              rotate_left
              · (intro w hSw; (try dsimp only at hSw); go_simp; (try with_reducible rfl))
              try simp only [pa, pb, pc, Act.put, pe, pf, pg]
              refine tk (i := 9) (v := ?_) rfl (Or.inl ⟨by rfl, ?_⟩) (by assumption) ?_
              rotate_left
              · (intro w hSw; (try dsimp only at hSw); go_simp; (try with_reducible rfl))
              try simp only [pa, pb, pc, Act.put, pe, pf, pg]
              refine tk (i := 10) (v := ?_) rfl (Or.inl ⟨by rfl, ?_⟩) (by assumption) ?_
              rotate_left
              · (intro w hSw; (try dsimp only at hSw); go_simp; (try with_reducible rfl))
              try simp only [pa, pb, pc, Act.put, pe, pf, pg]
              refine tk (i := 11) (v := ?_) rfl (Or.inl ⟨by rfl, ?_⟩) (by assumption) ?_
              rotate_left
              · (intro w hSw; (try dsimp only at hSw); go_simp; (try with_reducible rfl))
              try simp only [pa, pb, pc, Act.put, pe, pf, pg]
              refine tk (i := 12) (v := ?_) rfl (Or.inl ⟨by rfl, ?_⟩) (by assumption) ?_
              rotate_left
              · (intro w hSw; (try dsimp only at hSw); go_simp; (try with_reducible rfl))
              try simp only [pa, pb, pc, Act.put, pe, pf, pg]
              refine wpAnyH_done (by kernel_rfl) ?_ _
              by_cases hiT : i < T
              · have hii : (i : Int) < (T : Int) := by omega
                have hdw := Below.drew (Below.refl wd.heap.size wd)
                have HZe := Lib.hid (HZd.out.call hdw); have HOe := Lib.hid (HOd.out.below hdw)
                have hcs2 := big_cells HZe.out
                have hS0 : ¬ (S : Int) = 0 := by omega
                have hSn : ¬ S = 0 := by omega
                obtain ⟨q1, hq1⟩ : ∃ q1 : Int, Int.tdiv (i : Int) (S : Int) = q1 := ⟨_, rfl⟩
                have hq1' : (i : Int) / (S : Int) = q1 := by rw [← hq1, Int.tdiv_eq_ediv_of_nonneg (by omega)]
                have hq1b : q1 = ((i / S : Nat) : Int) := by rw [← hq1']; rfl
                have hdl : i / S ≤ i := Nat.div_le_self _ _
                have hq1w : IntKind.i64.wrap q1 = q1 := by rw [hq1b]; generalize i / S = qn at hdl; rw [IntKind.wrap_i64]; omega
                obtain ⟨q2, hq2⟩ : ∃ q2 : Int, Int.tmod (i : Int) (S : Int) = q2 := ⟨_, rfl⟩
                have hq2' : (i : Int) % (S : Int) = q2 := by rw [← hq2, Int.tmod_eq_emod_of_nonneg (by omega)]
                clear hdw HZd HOd hcs hq1b hdl
                go_upto_region 35 with fail
                refine wp_region_held_drew (S := fun w' => w'.cell? ⟨B, 2, none⟩ = some (.slice (some ⟨K, 0, none⟩) 1 1) ∧ w'.cell? ⟨K, 0, none⟩ = some (.int .i64 (R : Int)) ∧ w'.cell? ⟨K, 1, none⟩ = some (.int .i64 (S : Int))) (by kernel_rfl) (hcs2) (fun hHeld => ?_)
                generalize wd.drew = we at HZe HOe hcs2 hHeld ⊢
                refine tk (i := 0) (v := ?_) rfl (Or.inl ⟨by rfl, ?_⟩) (by assumption) ?_
                rotate_left
                · (intro w hSw; (try dsimp only at hSw); go_simp; (try with_reducible rfl))
                try simp only [pa, pb, pc, Act.put, pe, pf, pg]
                refine tk (i := 1) (v := ?_) rfl (Or.inl ⟨by rfl, ?_⟩) (by assumption) ?_
                rotate_left
                · (intro w hSw; (try dsimp only at hSw); go_simp; (try with_reducible rfl))
                try simp only [pa, pb, pc, Act.put, pe, pf, pg]
                refine tk (i := 2) (v := ?_) rfl (Or.inl ⟨by rfl, ?_⟩) (by assumption) ?_
                rotate_left
                · (intro w hSw; (try dsimp only at hSw); go_simp; (try with_reducible rfl))
                try simp only [pa, pb, pc, Act.put, pe, pf, pg]
                refine tk (i := 3) (v := ?_) rfl (Or.inl ⟨by rfl, ?_⟩) (by assumption) ?_
                rotate_left
                · (intro w hSw; (try dsimp only at hSw); go_simp; (try with_reducible rfl))
                try simp only [pa, pb, pc, Act.put, pe, pf, pg]
                refine tk (i := 4) (v := ?_) rfl (Or.inl ⟨by rfl, ?_⟩) (by assumption) ?_
                rotate_left
                · (intro w hSw; (try dsimp only at hSw); go_simp; (try with_reducible rfl))
                try simp only [pa, pb, pc, Act.put, pe, pf, pg]
                refine tk (i := 5) (v := ?_) rfl (Or.inl ⟨by rfl, ?_⟩) (by assumption) ?_
                rotate_left
                · (intro w hSw; (try dsimp only at hSw); go_simp; (try with_reducible rfl))
                try simp only [pa, pb, pc, Act.put, pe, pf, pg]
                refine tk (i := 6) (v := ?_) rfl (Or.inl ⟨by rfl, ?_⟩) (by assumption) ?_
                rotate_left
                · (intro w hSw; (try dsimp only at hSw); go_simp; (try with_reducible rfl))
                try simp only [pa, pb, pc, Act.put, pe, pf, pg]
                refine tk (i := 7) (v := ?_) rfl (Or.inl ⟨by rfl, ?_⟩) (by assumption) ?_
                rotate_left
                · (intro w hSw; (try dsimp only at hSw); go_simp; (try with_reducible rfl))
                try simp only [pa, pb, pc, Act.put, pe, pf, pg]
                refine tk (i := 8) (v := ?_) rfl (Or.inl ⟨by rfl, ?_⟩) (by assumption) ?_
                rotate_left
                · (intro w hSw; (try dsimp only at hSw); go_simp; (try with_reducible rfl))
                try simp only [pa, pb, pc, Act.put, pe, pf, pg]
                refine tk (i := 9) (v := ?_) rfl (Or.inl ⟨by rfl, ?_⟩) (by assumption) ?_
                rotate_left
                · (intro w hSw; (try dsimp only at hSw); go_simp; (try with_reducible rfl))
                try simp only [pa, pb, pc, Act.put, pe, pf, pg]
                refine tk (i := 10) (v := ?_) rfl (Or.inl ⟨by rfl, ?_⟩) (by assumption) ?_
                rotate_left
                · (intro w hSw; (try dsimp only at hSw); go_simp; (try with_reducible rfl))
                try simp only [pa, pb, pc, Act.put, pe, pf, pg]
                refine tk (i := 11) (v := ?_) rfl (Or.inl ⟨by rfl, ?_⟩) (by assumption) ?_
                rotate_left
                · (intro w hSw; (try dsimp only at hSw); go_simp; (try with_reducible rfl))
                try simp only [pa, pb, pc, Act.put, pe, pf, pg]
                refine tk (i := 12) (v := ?_) rfl (Or.inl ⟨by rfl, ?_⟩) (by assumption) ?_
                rotate_left
                · (intro w hSw; (try dsimp only at hSw); go_simp; (try with_reducible rfl))
                try simp only [pa, pb, pc, Act.put, pe, pf, pg]
                refine tk (i := 13) (v := ?_) rfl (Or.inl ⟨by rfl, ?_⟩) (by assumption) ?_
                rotate_left
                · (intro w hSw; (try dsimp only at hSw); go_simp; (try with_reducible rfl))
                try simp only [pa, pb, pc, Act.put, pe, pf, pg]
                refine tk (i := 14) (v := ?_) rfl (Or.inl ⟨by rfl, ?_⟩) (by assumption) ?_
                rotate_left
                · (intro w hSw; (try dsimp only at hSw); go_simp; (try with_reducible rfl))
                try simp only [pa, pb, pc, Act.put, pe, pf, pg]
                refine tk (i := 15) (v := ?_) rfl (Or.inl ⟨by rfl, ?_⟩) (by assumption) ?_
                rotate_left
                · (intro w hSw; (try dsimp only at hSw); go_simp; (try with_reducible rfl))
                try simp only [pa, pb, pc, Act.put, pe, pf, pg]
                refine tk (i := 16) (v := ?_) rfl (Or.inl ⟨by rfl, ?_⟩) (by assumption) ?_
                rotate_left
                · (intro w hSw; (try dsimp only at hSw); go_simp; (try with_reducible rfl))
                try simp only [pa, pb, pc, Act.put, pe, pf, pg]
                refine wpAnyH_ready (rs := [17]) (by kernel_rfl) (by simp) (AllReadyH.cons rfl (fun K hK => ?_) AllReadyH.nil)
                go_simp
                have hcc := HZe.out.call (below_new (o := (.cells #[.int .i64 0, .int .i64 q1, .int .i64 q2, .int .i64 0, .int .i64 1, .int .i64 0, .int .i64 1000, .bool false] 65)))
                have HZf := Lib.hid hcc; have HOf := Lib.hid (HOe.out.below (below_new (o := (.cells #[.int .i64 0, .int .i64 q1, .int .i64 q2, .int .i64 0, .int .i64 1, .int .i64 0, .int .i64 1000, .bool false] 65))))
                have hcs3 := big_cells HZf.out
                have HY := Lib.hid (SlBk.new (T := 65) (x := ⟨0, q1, q2, ⟨0, 1, 0, 1000, false⟩⟩) we)
                have hszf := Nat.le_trans HZf.out.hB (Nat.le_of_lt HZf.out.b.lt)
                have htl2 : t.length ≤ 1073741824 := by rw [htl.out]; omega
                clear hcc
                refine hK.out _ _ ?_ (fun hHeld => ?_)
                · exact hcs3
                clear hK
                try simp only [pa, pb, pc, Act.put, pe, pf, pg]
                refine wpAnyH_ready (rs := [18]) (by kernel_rfl) (by simp) (AllReadyH.cons rfl (fun K hK => ?_) AllReadyH.nil)
                refine app_sl _ (.tmp 141) (.tmp 158) rfl (w.heap.size + 1) Tryz.underlying26 infoSl _ t rfl HOf.out we.heap.size 0 ⟨0, q1, q2, ⟨0, 1, 0, 1000, false⟩⟩ _ rfl HY.out.in_ htl2 hszf ?_
                intro v9 w99 o9 g9
                have HZ9 := Lib.hid (big_aside HZf.out hp HOf.out g9); have HO9 := Lib.hid o9
                have HL9 := Lib.hid (show (t ++ [(⟨0, q1, q2, ⟨0, 1, 0, 1000, false⟩⟩ : Sl)]).length = i + 1 from by rw [List.length_append, List.length_singleton, htl.out])
                have hcs4 := big_cells HZ9.out
                clear o9 g9 HZf HOf HY hszf htl2
                refine hK.out _ _ ?_ (fun hHeld => ?_)
                · exact hcs4
                clear hK
                try simp only [pa, pb, pc, Act.put, pe, pf, pg]
                refine tk (i := 19) (v := ?_) rfl (Or.inl ⟨by rfl, ?_⟩) (by assumption) ?_
                rotate_left
                · (intro w hSw; (try dsimp only at hSw); go_simp; (try with_reducible rfl))
                try simp only [pa, pb, pc, Act.put, pe, pf, pg]
                refine wpAnyH_done (by kernel_rfl) ?_ _
                clear hcs2 hcs3 hcs4 HZe HOe
                go_wp2_with fail
                go_roundw
                case rel => exact ⟨i + 1, t ++ [(⟨0, q1, q2, ⟨0, 1, 0, 1000, false⟩⟩ : Sl)], _, rfl, by go_num, by omega, HL9, HZ9, HO9⟩
                case measure => simp [intOf]; omega
              · have hii : ¬ (i : Int) < (T : Int) := by omega
                obtain ⟨eo, ec, rfl, oe, -⟩ := HOd.out.get
                have q3 := HZd.out.b.all.2.2.2
                dsimp only [bigMv, List.length_nil] at q3
                have f3 := HZd.out.b.f 3
                have HF := Lib.hid (HZd.out.box hp (HZd.out.b.set3 t eo ec) (grown_set wd B 3 (.slice eo t.length ec)) ⟨HZd.out.o.n, HZd.out.o.m, oe⟩ ⟨HZd.out.a.nl, HZd.out.a.nm, HZd.out.a.cs, by show t.length ≤ 200; rw [htl.out]; omega⟩).fin
                clear oe HOd hcs htl
                go_wp2_with fail
                go_meet
                exact ⟨_, rfl, _, HF⟩
    have hb8 : (x == 8) = false := by simp [h8]
    have HF := Lib.hid HZ5.out.fin
    clear HZ5
    go_wp2_with fail
    go_meet
    exact ⟨_, rfl, v0, HF⟩
  case rest =>
  obtain ⟨wf, rfl, v, HF⟩ := hcut
  clear HZ5 HD he0 he1 hk2 hkn
  obtain ⟨q0, q1, q2, q3⟩ := HF.out.b.all
  have HRz := HF.out.r.all
  dsimp only [Mv.zero, List.length_nil] at HRz
  obtain ⟨r0, r1, r2, r3⟩ := HRz
  have f0 := HF.out.r.f 0; have f1 := HF.out.r.f 1; have f2 := HF.out.r.f 2; have f3 := HF.out.r.f 3
  go_wp2_with fail
  change bodyPost _ _ _ _ _ (setMv wf w.heap.size v)
  have bz := below_setMv (B := w.heap.size) (w := wf) (Nat.le_refl _) v
  have HZ := Lib.hid (HF.out.r.put v)
  have HOZ := Lib.hid ((HF.out.o.far (grown_setMv wf w.heap.size v) (Nat.lt_succ_self _)).more (Nat.le_succ _))
  have HSZ := Lib.hid (HF.out.s.belowB bz hp); have HGZ := Lib.hid (grown_step HF.out.g bz (Nat.le_refl _))
  have HAZ := Lib.hid HF.out.a
  clear q0 q1 q2 q3 r0 r1 r2 r3 f0 f1 f2 f3 bz HF
  generalize setMv wf w.heap.size v = wz at HZ HOZ HSZ HGZ ⊢
  obtain ⟨e0, e1, e2, e3⟩ := HZ.out.all
  exact bodyPost_ret (v := mvVal v) (by simp [mvVal, results, Tryz.results123, go_sem, e0, e1, e2, e3]) rfl ⟨v, rfl, HOZ.out, HAZ.out, HSZ.out, HGZ.out⟩
end
end Go.Proofs.YthihjhidjnadaaaGreat
