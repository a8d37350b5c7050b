/-
  Contracts of the program's, the model's and the laws' functions, and plain mathematics, on which a proof of this claim stands (part E).
-/

import Derived.Test.YthihjhidjnadaaaGreatP27N
import Derived.Test.YthihjhidjnadaaaGreatP27A
import Derived.Test.YthihjhidjnadaaaGreatP27M
namespace Go.Proofs.YthihjhidjnadaaaGreat
section
open Go.RowKit
def drNd (t : List Nd) : Prop := ∀ x ∈ t, (0 ≤ x.drift ∧ x.drift ≤ 1000) ∧ x.name.size ≤ 30
def shortN (t : List Nd) : Prop := ∀ x ∈ t, x.name.size ≤ 30
theorem shortN.small {t : List Nd} (h : shortN t) : smallN t := fun i hi => by have := h _ (ndOf_mem hi); omega
theorem OwnN.src {E base p : Nat} {w w' : World} {v : Value} {t : List Nd} (h : OwnN E w base v t) (hg : w.grownBy w' (some p)) (hp : p < base) : OwnN E w' base v t := by
  refine h.only hg ?_
  cases hk : v.ownBlock with
  | none => exact .inl rfl
  | some k => exact .inr (fun e => by cases e; have := (h.block _ hk).1; omega)
def DrawnTab (P : List Nd → Prop) (w : World) (p : Nat) (e : Ending) (w' : World) : Prop :=
  ∃ v t, e = .returned v ∧ OwnN 130 w' w.heap.size v t ∧ P t ∧ Src 172 w' p ∧ w.grownBy w' (some p)
def nName (d : Nat) : ByteArray := { data := #[110] } ++ decStr d
theorem nName_size {d : Nat} (h : d < 18446744073709551616) : (nName d).size ≤ 21 := by
  have := decStr_size d h
  unfold nName
  rw [ByteArray.size_append, show ({ data := #[110] } : ByteArray).size = 1 from rfl]
  omega
set_option maxHeartbeats 2000000 in
set_option maxRecDepth 100000 in
theorem l10Draw_any (p : Nat) (w : World) (hs : Src 172 w p) : Calls Tryz.prog 191 #[.pointer (some ⟨p, 0, none⟩)] w (DrawnTab (fun t => 1 ≤ t.length ∧ t.length ≤ 4 ∧ drNd t) w p) := by
  have hp := hs.lt
  have ho0 : OwnN 130 (w.alloc (.cells #[] 130)) w.heap.size (.slice (some ⟨w.heap.size, 0, none⟩) 0 0) [] := OwnN.of_alloc_nil (Nat.le_refl _)
  have hb0 : Below w.heap.size w (w.alloc (.cells #[] 130)) := (Below.refl _ _).alloc (Nat.le_refl _) _
  have hs0 := hs.below hb0
  have HO0 := Lib.hid ho0; have HB0 := Lib.hid hb0; have HS0 := Lib.hid hs0; clear ho0 hb0 hs0 hs
  go_enter Tryz.func191, Tryz.ntmps191
  go_wp2_with fail
  refine (next_any _ _ _ HS0.out (by omega)).mono ?_
  rintro e w1 ⟨d, rfl, hd0, hd1, -, hs1, g1⟩
  have hd2 : d < 2 := hd1 (by omega)
  obtain ⟨d, rfl⟩ := Int.eq_ofNat_of_zero_le hd0
  have HO1 := Lib.hid (HO0.out.src g1 hp); have HS1 := Lib.hid hs1; have HG1 := Lib.hid (grown_trans (grown_of_below HB0.out) g1)
  clear hd0 hd1 hs1 g1
  go_wp2_with fail
  refine (next_any _ _ _ HS1.out (by omega)).mono ?_
  rintro e w2 ⟨n0, rfl, hn0, hn1, -, hs2, g2⟩
  have hn2 : n0 < 4 := hn1 (by omega)
  obtain ⟨n0, rfl⟩ := Int.eq_ofNat_of_zero_le hn0
  have HO2 := Lib.hid (HO1.out.src g2 hp); have HS2 := Lib.hid hs2; have HG2 := Lib.hid (grown_trans HG1.out g2)
  clear hn0 hn1 hs2 g2
  go_wp2_with fail
  go_loopw [3, 4, 5] (fun o i m wr => ∃ (k j : Nat) (t : List Nd), m = .int .i64 (k : Int) ∧ i = .int .i64 (j : Int) ∧ t.length + k = n0 + 1 ∧ j ≤ 1 + 3 * t.length ∧ Hid (drNd t) ∧ OwnN 130 wr w.heap.size o t ∧ Src 172 wr p ∧ w.grownBy wr (some p)) (fun _ _ m _ => (intOf m).toNat)
  case atStart => exact ⟨n0 + 1, d, [], by go_num, rfl, by simp, by simp; omega, (fun x hx => by cases hx), HO2.out, HS2.out, HG2.out⟩
  case round =>
    clear HO0 HB0 HS0 HO1 HS1 HG1 HO2 HS2 HG2
    obtain ⟨k, j, t, rfl, rfl, hk, hj, hdr, ho, hsr, hg⟩ := hrel
    have HO := Lib.hid ho; have HSR := Lib.hid hsr; have HG := Lib.hid hg; clear ho hsr hg
    by_cases hpos : 0 < k
    · obtain ⟨k, rfl⟩ : ∃ q, k = q + 1 := ⟨k - 1, by omega⟩
      have hkp : (0 : Int) < ((k + 1 : Nat) : Int) := by omega
      have hj2 : j ≤ 20 := by omega
      have hk2 : k ≤ 4 := by omega
      have htl : t.length ≤ 5 := by omega
      have hk3 : (t.length + 1) + k = n0 + 1 := by omega
      have hj3 : j + 3 ≤ 1 + 3 * (t.length + 1) := by omega
      have HK3 := Lib.hid hk3; have HJ3 := Lib.hid hj3; have HTL := Lib.hid htl
      obtain ⟨nm, hnme⟩ : ∃ nm, nm = ({ data := #[110] } : ByteArray) ++ decStr j := ⟨_, rfl⟩
      have hadd := fun W => by have h := run_string_add (P := Tryz.prog) W { data := #[110] } (decStr j) (by decide) (by have := decStr_size j (by omega); omega); rw [← hnme] at h; exact h
      have hnm : nm.size ≤ 21 := by rw [hnme]; exact nName_size (d := j) (by omega)
      have HNM := Lib.hid hnm
      clear hk hj hpos hnm hk3 hj3 htl hnme
      go_wp2_with fail
      refine (l01Dec_any j _ (by omega)).mono ?_
      rintro e w3 ⟨rfl, b3⟩
      have HO3 := Lib.hid (HO.out.below b3); have HS3 := Lib.hid (HSR.out.below b3); have HG3 := Lib.hid (grown_trans HG.out (grown_of_below b3)); clear b3 HO HSR HG
      go_wp2_with fail
      refine (next_any _ _ _ HS3.out (by omega)).mono ?_
      rintro e w4 ⟨f, rfl, hf0, hf1, -, hs4, g4⟩
      have hf2 : f < 200 := hf1 (by omega)
      have HO4 := Lib.hid (HO3.out.src g4 hp); have HS4 := Lib.hid hs4; have HG4 := Lib.hid (grown_trans HG3.out g4); clear hf1 hs4 g4 HO3 HS3 HG3
      go_wp2_with fail
      refine (next_any _ _ _ HS4.out (by omega)).mono ?_
      rintro e w5 ⟨y, rfl, hy0, -, -, hs5, g5⟩
      have HO5 := Lib.hid (HO4.out.src g5 hp); have HS5 := Lib.hid hs5; have HG5 := Lib.hid (grown_trans HG4.out g5); clear hy0 hs5 g5 HO4 HS4 HG4
      have hbl := fun X => (Below.refl w5.heap.size w5).alloc (Nat.le_refl _) X
      have HBL := Lib.hid hbl; clear hbl
      have hX : NdAt 130 (w5.alloc (.cells #[.int .i64 (j : Int), .string (nm), .int .i64 f, .bool (y == 0)] 130)) w5.heap.size ⟨(j : Int), nm, f, y == 0⟩ := NdAt.new (x := ⟨(j : Int), nm, f, y == 0⟩) w5
      have HX := Lib.hid hX; clear hX
      go_wp2_with (at_builtin; refine append_nd _ rfl (.tmp 16) (.tmp 27) rfl w.heap.size Tryz.underlying24 infoNd _ t rfl (HO5.out.below (HBL.out _)) _ ⟨(j : Int), nm, f, y == 0⟩ _ rfl HX.out.in_ (by have := HTL.out; omega) (by have := HG5.out.size; have := (HBL.out (.cells #[] 0)).size; simp; omega) ?_; intro v6 w6 o6 b6)
      have hb6 : Below w.heap.size w5 w6 := ((Below.refl _ _).alloc HG5.out.size _).trans b6
      have HO6 := Lib.hid o6; have HS6 := Lib.hid (HS5.out.belowB hb6 hp); have HG6 := Lib.hid (grown_step HG5.out hb6 (Nat.le_refl _)); clear o6 b6 hb6 HO5 HS5 HG5 HX HBL
      go_wp2_with fail
      refine (next_any _ _ _ HS6.out (by omega)).mono ?_
      rintro e w7 ⟨z, rfl, hz0, hz1, -, hs7, g7⟩
      have hz2 : z < 3 := hz1 (by omega)
      obtain ⟨z, rfl⟩ := Int.eq_ofNat_of_zero_le hz0
      have HO7 := Lib.hid (HO6.out.src g7 hp); have HS7 := Lib.hid hs7; have HG7 := Lib.hid (grown_trans HG6.out g7); clear hz0 hz1 hs7 g7 HO6 HS6 HG6
      have HDR := Lib.hid (show drNd (t ++ [⟨(j : Int), nm, f, y == 0⟩]) from fun x hx => by
        rcases List.mem_append.1 hx with hx | hx
        · exact hdr.out x hx
        · rw [List.mem_singleton] at hx; subst hx; exact ⟨⟨hf0, by simp only; omega⟩, by have := HNM.out; simp only; omega⟩)
      clear hf0 hf2
      go_wp2_with fail
      go_roundw
      case rel => exact ⟨k, j + 1 + z, t ++ [(⟨(j : Int), nm, f, y == 0⟩ : Nd)], by go_num, by go_num, by rw [List.length_append, List.length_singleton]; exact HK3.out, by rw [List.length_append, List.length_singleton]; have := HJ3.out; omega, HDR.out, HO7.out, HS7.out, HG7.out⟩
      case measure => simp [intOf]
    · have hk0 : k = 0 := by omega
      subst hk0
      have hl1 : 1 ≤ t.length := by omega
      have hl2 : t.length ≤ 4 := by omega
      go_wp2_with fail
      go_ret
      exact ⟨_, t, rfl, HO.out, ⟨hl1, hl2, hdr.out⟩, HSR.out, HG.out⟩
end

section
open Go.RowKit
def LowM (B : Nat) (ao : Option Addr) (cs : List Mc) : Prop := (∀ b off, ao = some ⟨b, off, none⟩ → B ≤ b) ∧ ∀ c ∈ cs, ∀ b off, c.ao = some ⟨b, off, none⟩ → B ≤ b
section
variable {w w' : World} {E EI base n : Nat} {v : Value} {cs : List Mc} {c : Mc}
theorem LowM.more {B B' : Nat} {ao : Option Addr} (h : LowM B ao cs) (hb : B' ≤ B) : LowM B' ao cs := ⟨fun b off e => Nat.le_trans hb (h.1 b off e), fun c hc b off e => Nat.le_trans hb (h.2 c hc b off e)⟩
theorem RdM.far {B p : Nat} {ao : Option Addr} (h : RdM w ao n cs) (hl : LowM B ao cs) (hg : w.grownBy w' (some p)) (hp : p < B) : RdM w' ao n cs :=
  ⟨h.len, fun h0 => by
    obtain ⟨b, off, e, hc⟩ := h.here h0
    have := hl.1 b off e
    exact ⟨b, off, e, fun i hi => (hc i hi).grown hg (fun e2 => by cases e2; omega)⟩, fun c hc => ⟨(h.next c hc).rd.only hg (fun b off e e2 => by have := hl.2 c hc b off e; cases e2; omega), (h.next c hc).le, (h.next c hc).cap⟩⟩
theorem rdM_row (h0 : w.ownsRow base E 3 v cs.length (cs.flatMap mcCells)) (hn : ∀ c ∈ cs, Own EI w base c.v c.md.next) : ∃ ao cap, v = .slice ao cs.length cap ∧ RdM w ao cs.length cs ∧ LowM base ao cs := by
  have hlow : ∀ c ∈ cs, ∀ b off, c.ao = some ⟨b, off, none⟩ → base ≤ b := fun c hc b off e => ((hn c hc).block b (by unfold Mc.v; rw [e]; rfl)).1
  have hnx : ∀ c ∈ cs, McRd w c := fun c hc => (hn c hc).mcRd
  rcases h0.2 with ⟨rfl, h2⟩ | ⟨g, cap, cur, rfl, hg, hh, hn, hcap, hsz, htake⟩
  · have : cs = [] := List.length_eq_zero_iff.1 h2
    subst this
    exact ⟨none, 0, rfl, RdM.nil_, fun _ _ e => (by cases e), hlow⟩
  · have hc : ∀ i j, i < cs.length → j < 3 → w.cell? ⟨g, 0 + i * 3 + j, none⟩ = (mcCells (mcOf cs i))[j]? := fun i j hi hj => by
      rw [Nat.zero_add, World.ownsRow.cellAt h0 (i * 3 + j) (by omega), flatM_get cs i j hi hj]
    exact ⟨_, cap, rfl, ⟨rfl, fun _ => ⟨g, 0, rfl, fun i hi => ⟨hc i 0 hi (by omega), hc i 1 hi (by omega), hc i 2 hi (by omega)⟩⟩, hnx⟩, fun b off e => (by cases e; exact hg), hlow⟩
end
section
variable {P : Program} {E EI T : Nat} (w : World) {ops : Array Oper} {rest : List Oper} {o : Oper} {a : Act} {Q : Exit → Act → World → Prop}
theorem appM_list (hgd : o.guard = none) (hne : E ≠ EI) (s x : Operand) (ho : o.op = .call { callee := .builtin .append, args := #[s, x], argTypes := #[T, T] })
    (base : Nat) (ht : P.underlying T = some (.slice E)) (hi : InfoMd P E)
    (v : Value) (cs : List Mc) (hs : a.eval s = v) (hown : OwnM E EI w base v cs) (b : Nat) (y : Mc) (c : Nat) (hx : a.eval x = .slice (some ⟨b, 0, none⟩) 1 c) (hc : McIn w b 0 y)
    (hy : Own EI w base y.v y.md.next) (ha : ∀ d ∈ cs, ∀ k, d.v.ownBlock = some k → y.v.ownBlock ≠ some k)
    (hlen : cs.length ≤ 1048576) (hbase : base ≤ w.heap.size)
    (h : ∀ v' w', OwnM E EI w' base v' (cs ++ [y]) → w.grownBy w' v.ownBlock → wpList P ops Q rest (a.put o.dst v') w') : wpList P ops Q (o :: rest) a w :=
  wpList_plain hgd fun _ hK => appM_op w hne s x ho base ht hi v cs hs hown b y c hx hc hy ha hlen hbase fun v' w' h1 h2 => hK _ _ (h v' w' h1 h2)
end
def DrawnM0 (w : World) (p : Nat) (e : Ending) (w' : World) : Prop :=
  ∃ v cs, e = .returned v ∧ OwnM 99 2 w' w.heap.size v cs ∧ (1 ≤ cs.length ∧ cs.length ≤ 4) ∧ (∀ c ∈ cs, c.md.next.length ≤ 4) ∧ Src 172 w' p ∧ w.grownBy w' (some p)
set_option maxHeartbeats 2000000 in
set_option maxRecDepth 100000 in
theorem l11Draw_any (p : Nat) (w : World) (hs : Src 172 w p) : Calls Tryz.prog 194 #[.pointer (some ⟨p, 0, none⟩)] w (DrawnM0 w p) := by
  have hp := hs.lt
  have ho0 : OwnM 99 2 (w.alloc (.cells #[] 99)) w.heap.size (.slice (some ⟨w.heap.size, 0, none⟩) 0 0) [] := OwnM.of_alloc_nil (Nat.le_refl _)
  have hb0 : Below w.heap.size w (w.alloc (.cells #[] 99)) := (Below.refl _ _).alloc (Nat.le_refl _) _
  have HO0 := Lib.hid ho0; have HB0 := Lib.hid hb0; have HS0 := Lib.hid (hs.below hb0); clear ho0 hb0 hs
  go_enter Tryz.func194, Tryz.ntmps194
  go_wp2_with fail
  refine (next_any _ _ _ HS0.out (by omega)).mono ?_
  rintro e w1 ⟨c, rfl, hc0, hc1, -, hs1, g1⟩
  have hc2 : c < 4 := hc1 (by omega)
  obtain ⟨c, rfl⟩ := Int.eq_ofNat_of_zero_le hc0
  have HO1 := Lib.hid (HO0.out.old g1 hp); have HS1 := Lib.hid hs1; have HG1 := Lib.hid (grown_trans (grown_of_below HB0.out) g1)
  clear hc0 hc1 hs1 g1
  go_wp2_with fail
  go_loopw [3, 5] (fun V I wr => ∃ (k : Nat) (cs : List Mc), I = .int .i64 (k : Int) ∧ k ≤ c + 1 ∧ cs.length = k ∧ Hid (∀ d ∈ cs, d.md.next.length ≤ 4) ∧ OwnM 99 2 wr w.heap.size V cs ∧ Src 172 wr p ∧ w.grownBy wr (some p)) (fun _ I _ => c + 1 - (intOf I).toNat)
  case atStart => exact ⟨0, [], rfl, by omega, rfl, (fun _ h => by cases h), HO1.out, HS1.out, HG1.out⟩
  case round =>
    clear HO0 HB0 HS0 HO1 HS1 HG1
    obtain ⟨k, cs, rfl, hk, hl, hsm, ho, hsr, hg⟩ := hrel
    obtain ⟨wo, hwo⟩ : ∃ wo, wo = wr := ⟨_, rfl⟩
    subst hwo
    have HO := Lib.hid ho; have HSR := Lib.hid hsr; have HG := Lib.hid hg; clear ho hsr hg
    by_cases hkc : k < c + 1
    · have hki : (k : Int) < 1 + (c : Int) := by omega
      have hpr : p < wo.heap.size := HSR.out.lt
      have hbl : Below wo.heap.size wo (wo.alloc (.cells #[] 2)) := (Below.refl _ _).alloc (Nat.le_refl _) _
      have HN0 := Lib.hid (show Own 2 (wo.alloc (.cells #[] 2)) wo.heap.size (.slice (some ⟨wo.heap.size, 0, none⟩) 0 0) [] from Own.of_alloc_nil (Nat.le_refl _))
      have HSN := Lib.hid (HSR.out.below hbl); have HGN := Lib.hid (show wo.grownBy _ (some p) from grown_of_below hbl)
      clear hbl
      go_wp2_with fail
      go_loopw [6, 7] (fun V I wq => ∃ (j : Nat) (ns : List Int), I = .int .i64 (j : Int) ∧ j ≤ c + 1 ∧ ns.length ≤ j ∧ Own 2 wq wo.heap.size V ns ∧ Src 172 wq p ∧ wo.grownBy wq (some p)) (fun _ I _ => c + 1 - (intOf I).toNat)
      case atStart => exact ⟨0, [], rfl, by omega, Nat.le_refl _, HN0.out, HSN.out, HGN.out⟩
      case round =>
        clear HN0 HSN HGN
        obtain ⟨j, ns, rfl, hj, hnl, hon, hsq, hgq⟩ := hrel
        have HON := Lib.hid hon; have HSQ := Lib.hid hsq; have HGQ := Lib.hid hgq; clear hon hsq hgq
        by_cases hjc : j < c + 1
        · have hji : (j : Int) < 1 + (c : Int) := by omega
          by_cases hjk : j = k
          · subst hjk
            go_wp2_with fail
            go_roundw
            case rel => exact ⟨j + 1, ns, by go_num, by omega, by omega, HON.out, HSQ.out, HGQ.out⟩
            case measure => simp [intOf]; omega
          · have hjb : ((j : Int) != (k : Int)) = true := bne_iff_ne.2 (fun e => hjk (Int.ofNat_inj.1 e))
            go_wp2_with fail
            refine (next_any _ _ _ HSQ.out (by omega)).mono ?_
            rintro e w3 ⟨x, rfl, hx0, hx1, -, hs3, g3⟩
            have HON3 := Lib.hid (HON.out.src g3 hpr); have HSQ3 := Lib.hid hs3; have HGQ3 := Lib.hid (grown_trans HGQ.out g3)
            clear hs3 g3 hx1 HON HSQ HGQ
            by_cases hx : x = 0
            · subst hx
              have hs3 : wo.heap.size ≤ w3.heap.size := HGQ3.out.size
              have hnl2 : ns.length ≤ 4294967296 := by omega
              go_wp2_with (at_builtin; refine append_one _ rfl (.tmp 31) (.tmp 33) rfl wo.heap.size Tryz.underlying53 info64 _ _ rfl (HON3.out.below ((Below.refl _ _).alloc (Nat.le_refl _) _)) _ _ _ rfl (new_cell rfl) hnl2 (by simp; omega) ?_; intro v6 w6 o6 b6)
              have hb6 := ((Below.refl wo.heap.size w3).alloc hs3 (.cells #[.int .i64 (j : Int)] 2)).trans b6
              have HON6 := Lib.hid o6; have HSQ6 := Lib.hid (HSQ3.out.belowB hb6 hpr); have HGQ6 := Lib.hid (grown_step HGQ3.out hb6 (Nat.le_refl _))
              clear o6 b6 hb6
              go_roundw
              case rel => exact ⟨j + 1, ns ++ [(j : Int)], by go_num, by omega, by rw [List.length_append, List.length_singleton]; omega, HON6.out, HSQ6.out, HGQ6.out⟩
              case measure => simp [intOf]; omega
            · have hxb : (x == 0) = false := by simp [hx]
              go_wp2_with fail
              go_roundw
              case rel => exact ⟨j + 1, ns, by go_num, by omega, by omega, HON3.out, HSQ3.out, HGQ3.out⟩
              case measure => simp [intOf]; omega
        · have hji : ¬ (j : Int) < 1 + (c : Int) := by omega
          have hn4 : ns.length ≤ 4 := by omega
          obtain ⟨na, nc, rfl, hon, -⟩ := HON.out.get
          have HO2 := Lib.hid (HO.out.old HGQ.out hp); have HG2 := Lib.hid (show w.grownBy wr (some p) from ⟨HGQ.out.os.trans HG.out.os, HGQ.out.tape.trans HG.out.tape, HGQ.out.output.trans HG.out.output, Nat.le_trans HG.out.size HGQ.out.size, fun i hi hne => (HGQ.out.block i (Nat.lt_of_lt_of_le hi HG.out.size) hne).trans (HG.out.block i hi hne)⟩)
          have HON2 := Lib.hid hon
          clear hon HON hj hjc
          go_wp2_with fail
          refine (next_any _ _ _ HSQ.out (by omega)).mono ?_
          rintro e w3 ⟨x, rfl, hx0, hx1, -, hs3, g3⟩
          have hx2 : x < 3 := hx1 (by omega)
          have HO3 := Lib.hid (HO2.out.old g3 hp); have HON3 := Lib.hid (HON2.out.src g3 hpr); have HS3 := Lib.hid hs3; have HG3 := Lib.hid (grown_trans HG2.out g3)
          clear hs3 g3 hx1 HON2 HSQ HGQ HO2 HG2
          go_wp2_with fail
          refine (next_any _ _ _ HS3.out (by omega)).mono ?_
          rintro e w4 ⟨y, rfl, hy0, hy1, -, hs4, g4⟩
          have hy2 : y < 4 := hy1 (by omega)
          have HO4 := Lib.hid (HO3.out.old g4 hp); have HON4 := Lib.hid (HON3.out.src g4 hpr); have HS4 := Lib.hid hs4; have HG4 := Lib.hid (grown_trans HG3.out g4)
          clear hs4 g4 hy1 HON3 HO3 HG3 HS3
          have hbl : Below w4.heap.size w4 (w4.alloc (.cells #[.int .i64 (1 + x), .int .i64 (1 + y), .slice na ns.length nc] 99)) := (Below.refl _ _).alloc (Nat.le_refl _) _
          have HAT := Lib.hid (McAt.new (T := 99) (c := ⟨⟨1 + x, 1 + y, ns⟩, na, nc⟩) w4).in_
          have HO5 := Lib.hid (HO4.out.below hbl)
          have HON5 := Lib.hid (show Own 2 _ w.heap.size (Mc.v ⟨⟨1 + x, 1 + y, ns⟩, na, nc⟩) ns from (HON4.out.below hbl).more HG.out.size)
          have HFR := Lib.hid (show ∀ d ∈ cs, ∀ k, d.v.ownBlock = some k → (Mc.v ⟨⟨1 + x, 1 + y, ns⟩, na, nc⟩).ownBlock ≠ some k from HO.out.fresh HON4.out)
          have hs5 : w.heap.size ≤ w4.heap.size := HG4.out.size
          have HB5 := Lib.hid hbl
          have hcl : cs.length ≤ 1048576 := by omega
          clear hbl HO4 HON4
          go_wp2_with (at_builtin; go_loud (refine appM_list _ rfl ne_md (.tmp 35) (.tmp 44) rfl w.heap.size Tryz.underlying25 infoMd _ cs rfl HO5.out _ (⟨⟨1 + x, 1 + y, ns⟩, na, nc⟩ : Mc) _ rfl HAT.out HON5.out HFR.out hcl (Nat.le_trans hs5 HB5.out.size) ?_; intro v6 w6 o6 g6))
          have hb6 : Below w.heap.size w4 w6 := ((Below.refl _ _).alloc hs5 _).grown g6 (by have := HB5.out.size; omega) (fun k e => (HO5.out.block k e).1)
          have HO6 := Lib.hid o6; have HS6 := Lib.hid (HS4.out.belowB hb6 hp); have HG6 := Lib.hid (grown_step HG4.out hb6 (Nat.le_refl _))
          clear o6 g6 hb6
          go_roundw
          case rel => exact ⟨k + 1, cs ++ [⟨⟨1 + x, 1 + y, ns⟩, na, nc⟩], by go_num, by omega, by rw [List.length_append, List.length_singleton]; omega, fun d hd => by
            rcases List.mem_append.1 hd with hd | hd
            · exact hsm.out d hd
            · rw [List.mem_singleton] at hd; subst hd; exact hn4, HO6.out, HS6.out, HG6.out⟩
          case measure => simp [intOf]; omega
    · have hki : ¬ (k : Int) < 1 + (c : Int) := by omega
      go_wp2_with fail
      go_ret
      exact ⟨_, cs, rfl, HO.out, ⟨by omega, by omega⟩, hsm.out, HSR.out, HG.out⟩
end

section
open Go.RowKit
structure DrawDs (w wi : World) (p J : Nat) (n a z u : Int) (c : Bool) : Prop where
  res : DescAt 44 wi w.heap.size 0 0 0 0 false
  var : DescAt 44 wi J n a z u c
  lt : w.heap.size < J
  src : Src 172 wi p
  grown : w.grownBy wi (some p)
  hp : p < w.heap.size
section
variable {w wi wj : World} {p J : Nat} {n a z u : Int} {c : Bool}
theorem DrawDs.next (h : DrawDs w wi p J n a z u c) (hs : Src 172 wj p) (g : wi.grownBy wj (some p)) : DrawDs w wj p J n a z u c :=
  have h1 := h.hp
  have h2 := h.lt
  ⟨h.res.grown g (by simp; omega), h.var.grown g (by simp; omega), h.lt, hs, grown_trans h.grown g, h.hp⟩
theorem DrawDs.call (h : DrawDs w wi p J n a z u c) (b : Below wi.heap.size wi wj) : DrawDs w wj p J n a z u c :=
  ⟨h.res.below b h.res.lt, h.var.below b h.var.lt, h.lt, h.src.below b, grown_trans h.grown (grown_of_below b), h.hp⟩
theorem DrawDs.step {n' a' z' u' : Int} {c' : Bool} (h : DrawDs w wi p J n a z u c) (b : Below J wi wj) (hv : DescAt 44 wj J n' a' z' u' c') : DrawDs w wj p J n' a' z' u' c' :=
  have h1 := h.hp
  have h2 := h.lt
  ⟨h.res.below b h.lt, hv, h.lt, h.src.belowB b (by omega), grown_step h.grown b (by omega), h.hp⟩
theorem DrawDs.cell {n' a' z' u' : Int} {c' : Bool} (h : DrawDs w wi p J n a z u c) (i : Nat) (v : Value) (hv : DescAt 44 (wi.setCell ⟨J, i, none⟩ v) J n' a' z' u' c') : DrawDs w (wi.setCell ⟨J, i, none⟩ v) p J n' a' z' u' c' := h.step ((Below.refl J wi).setCell (by exact Nat.le_refl _) _) hv
theorem DrawDs.fin (h : DrawDs w wi p J n a z u c) : DescAt 44 (setDesc wi w.heap.size n a z u c) w.heap.size n a z u c ∧ Src 172 (setDesc wi w.heap.size n a z u c) p ∧ w.grownBy (setDesc wi w.heap.size n a z u c) (some p) := by
  have b : Below w.heap.size wi (setDesc wi w.heap.size n a z u c) := below_desc (Nat.le_refl _) _ _ _ _ _
  exact ⟨h.res.five n a z u c, h.src.belowB b h.hp, grown_step h.grown b (Nat.le_refl _)⟩
end
theorem DrawDs.start {w w2 : World} {p : Nat} {n a z u : Int} {c : Bool} (r : DescAt 44 w2 w.heap.size 0 0 0 0 false) (hs : Src 172 w2 p) (g : w.grownBy w2 (some p)) (hp : p < w.heap.size) : DrawDs w (w2.alloc (.cells #[.int .i64 n, .int .i64 a, .int .i64 z, .int .i64 u, .bool c] 44)) p w2.heap.size n a z u c :=
  have b1 : Below w2.heap.size w2 (w2.alloc (.cells #[.int .i64 n, .int .i64 a, .int .i64 z, .int .i64 u, .bool c] 44)) := (Below.refl _ _).alloc (Nat.le_refl _) _
  ⟨r.below b1 r.lt, DescAt.new w2, r.lt, hs.below b1, grown_trans g (grown_of_below b1), hp⟩
def DrawnAny8 (w : World) (p : Nat) (e : Ending) (w' : World) : Prop :=
  ∃ (n a z u : Int) (c : Bool), e = .returned (.agg #[.int .i64 n, .int .i64 a, .int .i64 z, .int .i64 u, .bool c]) ∧ Src 172 w' p ∧ w.grownBy w' (some p)
def DrawnDs (w : World) (p : Nat) (e : Ending) (w' : World) : Prop :=
  ∃ (n a z u : Int) (c : Bool), e = .returned (.agg #[.int .i64 n, .int .i64 a, .int .i64 z, .int .i64 u, .bool c]) ∧ (kindOk a = true ∧ sizeOk a z = true ∧ 0 ≤ u ∧ u ≤ 1000) ∧ Src 172 w' p ∧ w.grownBy w' (some p)
theorem drawn_in {n a z u : Int} {c : Bool} (h : kindOk a = true ∧ sizeOk a z = true ∧ 0 ≤ u ∧ u ≤ 1000) : descIn ⟨n, a, z, u, c⟩ := ⟨inRange_iff.1 h.1, sizeOk_le h.2.1, h.2.2⟩
set_option maxHeartbeats 4000000 in
set_option maxRecDepth 100000 in
theorem l08Draw_any (p : Nat) (w : World) (hs : Src 172 w p) : Calls Tryz.prog 193 #[.pointer (some ⟨p, 0, none⟩)] w (DrawnDs w p) := by
  have hp := hs.lt
  have HA := Lib.hid (Below.alloc (Below.refl w.heap.size w) (Nat.le_refl _) (.cells #[.int .i64 0, .int .i64 0, .int .i64 0, .int .i64 0, .bool false] 44))
  have S0 := Lib.hid (hs.below HA.out)
  have R0 := Lib.hid (DescAt.new (T := 44) (n := 0) (a := 0) (z := 0) (u := 0) (c := false) w)
  have G0 := Lib.hid (grown_of_below (g := some p) HA.out)
  clear hs HA
  go_enter Tryz.func193, Tryz.ntmps193
  go_upto_region 1 with fail
  generalize w.alloc (.cells #[.int .i64 0, .int .i64 0, .int .i64 0, .int .i64 0, .bool false] 44) = w0 at S0 R0 G0 ⊢
  go_wp2_with fail
  refine (next_any _ _ _ S0.out (by omega)).mono ?_
  rintro e w1 ⟨n, rfl, -, -, -, hs1, g1⟩
  have S1 := Lib.hid hs1; have R1 := Lib.hid (R0.out.grown g1 (by simp; omega)); have G1 := Lib.hid (grown_trans G0.out g1)
  clear hs1 g1 S0 R0 G0
  go_wp2_with fail
  refine (next_any _ _ _ S1.out (by omega)).mono ?_
  rintro e w2 ⟨a, rfl, a0, a1, -, hs2, g2⟩
  have S2 := Lib.hid hs2; have R2 := Lib.hid (R1.out.grown g2 (by simp; omega)); have G2 := Lib.hid (grown_trans G1.out g2)
  clear hs2 g2 S1 R1 G1
  go_wp2_with fail
  refine (next_any _ _ _ S2.out (by omega)).mono ?_
  rintro e w3 ⟨b, rfl, -, -, -, hs3, g3⟩
  have S3 := Lib.hid hs3; have R3 := Lib.hid (R2.out.grown g3 (by simp; omega)); have G3 := Lib.hid (grown_trans G2.out g3)
  clear hs3 g3 S2 R2 G2
  have hA : a = 0 ∨ a = 1 ∨ a = 2 ∨ a = 3 := by have := a1 (by omega); omega
  clear a0 a1
  obtain ⟨c, hc⟩ : ∃ c, (b == 0) = c := ⟨_, rfl⟩
  have D3 := Lib.hid (DrawDs.start (n := n) (a := a) (z := 0) (u := 0) (c := c) R3.out S3.out G3.out hp)
  clear S3 R3 G3
  go_upto_region 2 with fail
  obtain ⟨J, hJ⟩ : ∃ b, b = w3.heap.size := ⟨_, rfl⟩
  rw [← hJ] at D3 ⊢
  clear hJ hc
  generalize w3.alloc (.cells #[.int .i64 n, .int .i64 a, .int .i64 0, .int .i64 0, .bool c] 44) = w4 at D3 ⊢
  rcases hA with rfl | rfl | rfl | rfl
  · have c1 := D3.out.var.c1
    go_wp2_with fail
    refine (l06Data_any _ _).mono ?_
    rintro e w5 ⟨rfl, rfl⟩
    rw [show hasData 0 = true from rfl]
    clear c1
    go_wp2_with fail
    refine (next_any _ _ _ D3.out.src (by omega)).mono ?_
    rintro e w5 ⟨x, rfl, x0, x1, -, hs5, g5⟩
    have D5 := Lib.hid (D3.out.next hs5 g5)
    clear hs5 g5 D3
    replace x1 := x1 (by omega)
    obtain ⟨z, hz⟩ : ∃ z, 1 + x = z := ⟨_, rfl⟩
    have hw : IntKind.i64.wrap (1 + x) = z := by rw [IntKind.wrap_i64]; omega
    have hzz : sizeOk 0 z = true := by unfold sizeOk; simp [inRange]; omega
    have HZZ := Lib.hid hzz
    clear x0 x1 hz hzz
    have c2 := D5.out.var.c2; have f2 := D5.out.var.f 2
    go_upto_region 4 with fail
    clear c2 f2 hw
    have D6 := Lib.hid (D5.out.cell 2 (.int .i64 z) (D5.out.var.set2 z))
    generalize w5.setCell ⟨J, 2, none⟩ (.int .i64 z) = w6 at D6 ⊢
    clear D5
    have c1 := D6.out.var.c1
    go_upto_region 6 with fail
    clear c1
    have hcl := fun (W : World) => l08Cells_any 0 z W rfl HZZ.out
    have hin := cells_in 0 z
    have hok : kindOk 0 = true ∧ sizeOk 0 z = true := ⟨rfl, HZZ.out⟩
    have HOK := Lib.hid hok; clear hok
    generalize cellsOf8 0 z = y at hcl hin
    have HC := Lib.hid hcl; clear hcl
    have hw : IntKind.i64.wrap (y + 20) = y + 20 := by rw [IntKind.wrap_i64]; omega
    have c1 := D6.out.var.c1; have c2 := D6.out.var.c2
    go_wp2_with fail
    refine (HC.out _).mono ?_
    rintro e w6 ⟨rfl, rfl⟩
    go_wp2_with fail
    clear c1 c2
    refine (next_any _ _ _ D6.out.src (by omega)).mono ?_
    rintro e w7 ⟨r, rfl, r0, r1, -, hs7, g7⟩
    have D7 := Lib.hid (D6.out.next hs7 g7)
    clear hs7 g7 D6
    replace r1 := r1 (by omega)
    obtain ⟨v, hv⟩ : ∃ v, y + 20 + r = v := ⟨_, rfl⟩
    have hw2 : IntKind.i64.wrap (y + 20 + r) = v := by rw [IntKind.wrap_i64]; omega
    have HVV : Hid (0 ≤ v ∧ v ≤ 1000) := Lib.hid (by omega)
    clear r0 r1 hv hin
    have c3 := D7.out.var.c3; have f3 := D7.out.var.f 3
    go_upto_region 7 with fail
    clear c3 f3 hw hw2
    have D8 := Lib.hid (D7.out.cell 3 (.int .i64 v) (D7.out.var.set3 v))
    generalize w7.setCell ⟨J, 3, none⟩ (.int .i64 v) = w8 at D8 ⊢
    clear D7
    have x0 := D8.out.var.c0
    have x1 := D8.out.var.c1
    have x2 := D8.out.var.c2
    have x3 := D8.out.var.c3
    have x4 := D8.out.var.c4
    have q0 := D8.out.res.c0; have f0 := D8.out.res.f 0
    have q1 := D8.out.res.c1; have f1 := D8.out.res.f 1
    have q2 := D8.out.res.c2; have f2 := D8.out.res.f 2
    have q3 := D8.out.res.c3; have f3 := D8.out.res.f 3
    have q4 := D8.out.res.c4; have f4 := D8.out.res.f 4
    go_wp2_with fail
    clear x0 x1 x2 x3 x4 q0 q1 q2 q3 q4 f0 f1 f2 f3 f4
    change bodyPost _ _ _ _ _ (setDesc w8 w.heap.size n 0 z v c)
    obtain ⟨SF, SS, GG⟩ := D8.out.fin
    generalize setDesc w8 w.heap.size n 0 z v c = wz at SF SS GG ⊢
    have e0 := SF.c0; have e1 := SF.c1; have e2 := SF.c2; have e3 := SF.c3; have e4 := SF.c4
    exact bodyPost_ret (v := .agg #[.int .i64 n, .int .i64 0, .int .i64 z, .int .i64 v, .bool c]) (by simp [results, Tryz.results193, go_sem, e0, e1, e2, e3, e4]) rfl ⟨_, _, _, _, _, rfl, ⟨HOK.out.1, HOK.out.2, HVV.out⟩, SS, GG⟩
  · have c1 := D3.out.var.c1
    go_wp2_with fail
    refine (l06Data_any _ _).mono ?_
    rintro e w5 ⟨rfl, rfl⟩
    rw [show hasData 1 = false from rfl]
    clear c1
    have c1 := D3.out.var.c1
    go_upto_region 6 with fail
    clear c1
    have hcl := fun (W : World) => l08Cells_any 1 0 W rfl rfl
    have hin := cells_in 1 0
    have hok : kindOk 1 = true ∧ sizeOk 1 0 = true := ⟨rfl, rfl⟩
    have HOK := Lib.hid hok; clear hok
    generalize cellsOf8 1 0 = y at hcl hin
    have HC := Lib.hid hcl; clear hcl
    have hw : IntKind.i64.wrap (y + 20) = y + 20 := by rw [IntKind.wrap_i64]; omega
    have c1 := D3.out.var.c1; have c2 := D3.out.var.c2
    go_wp2_with fail
    refine (HC.out _).mono ?_
    rintro e w6 ⟨rfl, rfl⟩
    go_wp2_with fail
    clear c1 c2
    refine (next_any _ _ _ D3.out.src (by omega)).mono ?_
    rintro e w7 ⟨r, rfl, r0, r1, -, hs7, g7⟩
    have D7 := Lib.hid (D3.out.next hs7 g7)
    clear hs7 g7 D3
    replace r1 := r1 (by omega)
    obtain ⟨v, hv⟩ : ∃ v, y + 20 + r = v := ⟨_, rfl⟩
    have hw2 : IntKind.i64.wrap (y + 20 + r) = v := by rw [IntKind.wrap_i64]; omega
    have HVV : Hid (0 ≤ v ∧ v ≤ 1000) := Lib.hid (by omega)
    clear r0 r1 hv hin
    have c3 := D7.out.var.c3; have f3 := D7.out.var.f 3
    go_upto_region 7 with fail
    clear c3 f3 hw hw2
    have D8 := Lib.hid (D7.out.cell 3 (.int .i64 v) (D7.out.var.set3 v))
    generalize w7.setCell ⟨J, 3, none⟩ (.int .i64 v) = w8 at D8 ⊢
    clear D7
    have x0 := D8.out.var.c0
    have x1 := D8.out.var.c1
    have x2 := D8.out.var.c2
    have x3 := D8.out.var.c3
    have x4 := D8.out.var.c4
    have q0 := D8.out.res.c0; have f0 := D8.out.res.f 0
    have q1 := D8.out.res.c1; have f1 := D8.out.res.f 1
    have q2 := D8.out.res.c2; have f2 := D8.out.res.f 2
    have q3 := D8.out.res.c3; have f3 := D8.out.res.f 3
    have q4 := D8.out.res.c4; have f4 := D8.out.res.f 4
    go_wp2_with fail
    clear x0 x1 x2 x3 x4 q0 q1 q2 q3 q4 f0 f1 f2 f3 f4
    change bodyPost _ _ _ _ _ (setDesc w8 w.heap.size n 1 0 v c)
    obtain ⟨SF, SS, GG⟩ := D8.out.fin
    generalize setDesc w8 w.heap.size n 1 0 v c = wz at SF SS GG ⊢
    have e0 := SF.c0; have e1 := SF.c1; have e2 := SF.c2; have e3 := SF.c3; have e4 := SF.c4
    exact bodyPost_ret (v := .agg #[.int .i64 n, .int .i64 1, .int .i64 0, .int .i64 v, .bool c]) (by simp [results, Tryz.results193, go_sem, e0, e1, e2, e3, e4]) rfl ⟨_, _, _, _, _, rfl, ⟨HOK.out.1, HOK.out.2, HVV.out⟩, SS, GG⟩
  · have c1 := D3.out.var.c1
    go_wp2_with fail
    refine (l06Data_any _ _).mono ?_
    rintro e w5 ⟨rfl, rfl⟩
    rw [show hasData 2 = true from rfl]
    clear c1
    go_wp2_with fail
    refine (next_any _ _ _ D3.out.src (by omega)).mono ?_
    rintro e w5 ⟨x, rfl, x0, x1, -, hs5, g5⟩
    have D5 := Lib.hid (D3.out.next hs5 g5)
    clear hs5 g5 D3
    replace x1 := x1 (by omega)
    obtain ⟨z, hz⟩ : ∃ z, 1 + x = z := ⟨_, rfl⟩
    have hw : IntKind.i64.wrap (1 + x) = z := by rw [IntKind.wrap_i64]; omega
    have hzz : sizeOk 2 z = true := by unfold sizeOk; simp [inRange]; omega
    have HZZ := Lib.hid hzz
    clear x0 x1 hz hzz
    have c2 := D5.out.var.c2; have f2 := D5.out.var.f 2
    go_upto_region 4 with fail
    clear c2 f2 hw
    have D6 := Lib.hid (D5.out.cell 2 (.int .i64 z) (D5.out.var.set2 z))
    generalize w5.setCell ⟨J, 2, none⟩ (.int .i64 z) = w6 at D6 ⊢
    clear D5
    have c1 := D6.out.var.c1
    go_upto_region 6 with fail
    clear c1
    have hcl := fun (W : World) => l08Cells_any 2 z W rfl HZZ.out
    have hin := cells_in 2 z
    have hok : kindOk 2 = true ∧ sizeOk 2 z = true := ⟨rfl, HZZ.out⟩
    have HOK := Lib.hid hok; clear hok
    generalize cellsOf8 2 z = y at hcl hin
    have HC := Lib.hid hcl; clear hcl
    have hw : IntKind.i64.wrap (y + 20) = y + 20 := by rw [IntKind.wrap_i64]; omega
    have c1 := D6.out.var.c1; have c2 := D6.out.var.c2
    go_wp2_with fail
    refine (HC.out _).mono ?_
    rintro e w6 ⟨rfl, rfl⟩
    go_wp2_with fail
    clear c1 c2
    refine (next_any _ _ _ D6.out.src (by omega)).mono ?_
    rintro e w7 ⟨r, rfl, r0, r1, -, hs7, g7⟩
    have D7 := Lib.hid (D6.out.next hs7 g7)
    clear hs7 g7 D6
    replace r1 := r1 (by omega)
    obtain ⟨v, hv⟩ : ∃ v, y + 20 + r = v := ⟨_, rfl⟩
    have hw2 : IntKind.i64.wrap (y + 20 + r) = v := by rw [IntKind.wrap_i64]; omega
    have HVV : Hid (0 ≤ v ∧ v ≤ 1000) := Lib.hid (by omega)
    clear r0 r1 hv hin
    have c3 := D7.out.var.c3; have f3 := D7.out.var.f 3
    go_upto_region 7 with fail
    clear c3 f3 hw hw2
    have D8 := Lib.hid (D7.out.cell 3 (.int .i64 v) (D7.out.var.set3 v))
    generalize w7.setCell ⟨J, 3, none⟩ (.int .i64 v) = w8 at D8 ⊢
    clear D7
    have x0 := D8.out.var.c0
    have x1 := D8.out.var.c1
    have x2 := D8.out.var.c2
    have x3 := D8.out.var.c3
    have x4 := D8.out.var.c4
    have q0 := D8.out.res.c0; have f0 := D8.out.res.f 0
    have q1 := D8.out.res.c1; have f1 := D8.out.res.f 1
    have q2 := D8.out.res.c2; have f2 := D8.out.res.f 2
    have q3 := D8.out.res.c3; have f3 := D8.out.res.f 3
    have q4 := D8.out.res.c4; have f4 := D8.out.res.f 4
    go_wp2_with fail
    clear x0 x1 x2 x3 x4 q0 q1 q2 q3 q4 f0 f1 f2 f3 f4
    change bodyPost _ _ _ _ _ (setDesc w8 w.heap.size n 2 z v c)
    obtain ⟨SF, SS, GG⟩ := D8.out.fin
    generalize setDesc w8 w.heap.size n 2 z v c = wz at SF SS GG ⊢
    have e0 := SF.c0; have e1 := SF.c1; have e2 := SF.c2; have e3 := SF.c3; have e4 := SF.c4
    exact bodyPost_ret (v := .agg #[.int .i64 n, .int .i64 2, .int .i64 z, .int .i64 v, .bool c]) (by simp [results, Tryz.results193, go_sem, e0, e1, e2, e3, e4]) rfl ⟨_, _, _, _, _, rfl, ⟨HOK.out.1, HOK.out.2, HVV.out⟩, SS, GG⟩
  · have c1 := D3.out.var.c1
    go_wp2_with fail
    refine (l06Data_any _ _).mono ?_
    rintro e w5 ⟨rfl, rfl⟩
    rw [show hasData 3 = false from rfl]
    clear c1
    have c1 := D3.out.var.c1; have c4 := D3.out.var.c4; have f4 := D3.out.var.f 4
    go_upto_region 6 with fail
    clear c1 c4 f4
    have D6 := Lib.hid (D3.out.cell 4 (.bool false) (D3.out.var.set4 false))
    generalize w4.setCell ⟨J, 4, none⟩ (.bool false) = w6 at D6 ⊢
    clear D3
    have hcl := fun (W : World) => l08Cells_any 3 0 W rfl rfl
    have hin := cells_in 3 0
    have hok : kindOk 3 = true ∧ sizeOk 3 0 = true := ⟨rfl, rfl⟩
    have HOK := Lib.hid hok; clear hok
    generalize cellsOf8 3 0 = y at hcl hin
    have HC := Lib.hid hcl; clear hcl
    have hw : IntKind.i64.wrap (y + 20) = y + 20 := by rw [IntKind.wrap_i64]; omega
    have c1 := D6.out.var.c1; have c2 := D6.out.var.c2
    go_wp2_with fail
    refine (HC.out _).mono ?_
    rintro e w6 ⟨rfl, rfl⟩
    go_wp2_with fail
    clear c1 c2
    refine (next_any _ _ _ D6.out.src (by omega)).mono ?_
    rintro e w7 ⟨r, rfl, r0, r1, -, hs7, g7⟩
    have D7 := Lib.hid (D6.out.next hs7 g7)
    clear hs7 g7 D6
    replace r1 := r1 (by omega)
    obtain ⟨v, hv⟩ : ∃ v, y + 20 + r = v := ⟨_, rfl⟩
    have hw2 : IntKind.i64.wrap (y + 20 + r) = v := by rw [IntKind.wrap_i64]; omega
    have HVV : Hid (0 ≤ v ∧ v ≤ 1000) := Lib.hid (by omega)
    clear r0 r1 hv hin
    have c3 := D7.out.var.c3; have f3 := D7.out.var.f 3
    go_upto_region 7 with fail
    clear c3 f3 hw hw2
    have D8 := Lib.hid (D7.out.cell 3 (.int .i64 v) (D7.out.var.set3 v))
    generalize w7.setCell ⟨J, 3, none⟩ (.int .i64 v) = w8 at D8 ⊢
    clear D7
    have x0 := D8.out.var.c0
    have x1 := D8.out.var.c1
    have x2 := D8.out.var.c2
    have x3 := D8.out.var.c3
    have x4 := D8.out.var.c4
    have q0 := D8.out.res.c0; have f0 := D8.out.res.f 0
    have q1 := D8.out.res.c1; have f1 := D8.out.res.f 1
    have q2 := D8.out.res.c2; have f2 := D8.out.res.f 2
    have q3 := D8.out.res.c3; have f3 := D8.out.res.f 3
    have q4 := D8.out.res.c4; have f4 := D8.out.res.f 4
    go_wp2_with fail
    clear x0 x1 x2 x3 x4 q0 q1 q2 q3 q4 f0 f1 f2 f3 f4
    change bodyPost _ _ _ _ _ (setDesc w8 w.heap.size n 3 0 v false)
    obtain ⟨SF, SS, GG⟩ := D8.out.fin
    generalize setDesc w8 w.heap.size n 3 0 v false = wz at SF SS GG ⊢
    have e0 := SF.c0; have e1 := SF.c1; have e2 := SF.c2; have e3 := SF.c3; have e4 := SF.c4
    exact bodyPost_ret (v := .agg #[.int .i64 n, .int .i64 3, .int .i64 0, .int .i64 v, .bool false]) (by simp [results, Tryz.results193, go_sem, e0, e1, e2, e3, e4]) rfl ⟨_, _, _, _, _, rfl, ⟨HOK.out.1, HOK.out.2, HVV.out⟩, SS, GG⟩
set_option maxHeartbeats 8000000 in
set_option maxRecDepth 100000 in
theorem l08DrawAny_any (p : Nat) (w : World) (hs : Src 172 w p) : Calls Tryz.prog 163 #[.pointer (some ⟨p, 0, none⟩)] w (DrawnAny8 w p) := by
  have hp := hs.lt
  have HA := Lib.hid (Below.alloc (Below.refl w.heap.size w) (Nat.le_refl _) (.cells #[.int .i64 0, .int .i64 0, .int .i64 0, .int .i64 0, .bool false] 44))
  have S0 := Lib.hid (hs.below HA.out)
  have R0 := Lib.hid (DescAt.new (T := 44) (n := 0) (a := 0) (z := 0) (u := 0) (c := false) w)
  have G0 := Lib.hid (grown_of_below (g := some p) HA.out)
  clear hs HA
  go_enter Tryz.func163, Tryz.ntmps163
  go_upto_region 1 with fail
  generalize w.alloc (.cells #[.int .i64 0, .int .i64 0, .int .i64 0, .int .i64 0, .bool false] 44) = w0 at S0 R0 G0 ⊢
  go_wp2_with fail
  refine (l08Draw_any _ _ S0.out).mono ?_
  rintro e w1 ⟨n, a, z, u, c, rfl, hok, hs1, g1⟩
  have S1 := Lib.hid hs1; have R1 := Lib.hid (R0.out.grown g1 (by simp; omega)); have G1 := Lib.hid (grown_trans G0.out g1); have HOK := Lib.hid hok
  clear hs1 g1 S0 R0 G0 hok
  have D1 := Lib.hid (DrawDs.start (n := n) (a := a) (z := z) (u := u) (c := c) R1.out S1.out G1.out hp)
  clear S1 R1 G1
  go_upto_region 2 with fail
  obtain ⟨J, hJ⟩ : ∃ b, b = w1.heap.size := ⟨_, rfl⟩
  rw [← hJ] at D1 ⊢
  clear hJ
  generalize w1.alloc (.cells #[.int .i64 n, .int .i64 a, .int .i64 z, .int .i64 u, .bool c] 44) = w2 at D1 ⊢
  go_wp2_with fail
  refine (next_any _ _ _ D1.out.src (by omega)).mono ?_
  rintro e w3 ⟨y, rfl, -, -, -, hs3, g3⟩
  have D3 := Lib.hid (D1.out.next hs3 g3)
  clear hs3 g3 D1
  by_cases h0 : y = 0
  · subst h0
    have DT := Lib.hid (D3.out.call (Below.alloc (Below.refl w3.heap.size w3) (Nat.le_refl _) (.cells #[.int .i64 (-1), .int .i64 31, .int .i64 32] 2)))
    have hpl := D3.out.src.lt
    go_wp2_with fail
    refine (next_any _ _ _ DT.out.src (by omega)).mono ?_
    rintro e w4 ⟨x, rfl, x0, x1, -, hs4, g4⟩
    replace x1 := x1 (by omega)
    obtain ⟨x, rfl⟩ := Int.eq_ofNat_of_zero_le x0
    have hx : x < 3 := by omega
    obtain ⟨v, hv⟩ : ∃ v : Int, (#[.int .i64 (-1), .int .i64 31, .int .i64 32] : Array Value)[x]? = some (.int .i64 v) := by
      match x, hx with
      | 0, _ => exact ⟨_, rfl⟩
      | 1, _ => exact ⟨_, rfl⟩
      | 2, _ => exact ⟨_, rfl⟩
    have hct := (table_cell g4 hpl x).trans hv
    have D4 := Lib.hid (DT.out.next hs4 g4)
    clear hs4 g4 DT D3 x0 hv hx hpl
    have cc := D4.out.var.c0; have ff := D4.out.var.f 0
    go_upto_region 13 with fail
    clear cc ff hct x1
    have D5 := Lib.hid (D4.out.cell 0 (.int .i64 v) (D4.out.var.set0 v))
    generalize w4.setCell ⟨J, 0, none⟩ (.int .i64 v) = w5 at D5 ⊢
    clear D4
    have x0 := D5.out.var.c0
    have x1 := D5.out.var.c1
    have x2 := D5.out.var.c2
    have x3 := D5.out.var.c3
    have x4 := D5.out.var.c4
    have q0 := D5.out.res.c0; have f0 := D5.out.res.f 0
    have q1 := D5.out.res.c1; have f1 := D5.out.res.f 1
    have q2 := D5.out.res.c2; have f2 := D5.out.res.f 2
    have q3 := D5.out.res.c3; have f3 := D5.out.res.f 3
    have q4 := D5.out.res.c4; have f4 := D5.out.res.f 4
    go_wp2_with fail
    clear x0 x1 x2 x3 x4 q0 q1 q2 q3 q4 f0 f1 f2 f3 f4
    change bodyPost _ _ _ _ _ (setDesc w5 w.heap.size v a z u c)
    obtain ⟨SF, SS, GG⟩ := D5.out.fin
    generalize setDesc w5 w.heap.size v a z u c = wz at SF SS GG ⊢
    have e0 := SF.c0; have e1 := SF.c1; have e2 := SF.c2; have e3 := SF.c3; have e4 := SF.c4
    exact bodyPost_ret (v := .agg #[.int .i64 v, .int .i64 a, .int .i64 z, .int .i64 u, .bool c]) (by simp [results, Tryz.results163, go_sem, e0, e1, e2, e3, e4]) rfl ⟨_, _, _, _, _, rfl, SS, GG⟩
  have t0 : (y == 0) = false := by simp [h0]
  by_cases h1 : y = 1
  · subst h1
    clear t0 h0
    go_wp2_with fail
    refine (next_any _ _ _ D3.out.src (by omega)).mono ?_
    rintro e w4 ⟨x, rfl, x0, x1, -, hs4, g4⟩
    replace x1 := x1 (by omega)
    have D4 := Lib.hid (D3.out.next hs4 g4)
    clear hs4 g4 D3
    obtain ⟨v, hv⟩ : ∃ v, x - 1 = v := ⟨_, rfl⟩
    have hw : IntKind.i64.wrap (x - 1) = v := by rw [IntKind.wrap_i64]; omega
    clear x0 x1 hv
    have cc := D4.out.var.c1; have ff := D4.out.var.f 1
    go_upto_region 13 with fail
    clear cc ff hw
    have D5 := Lib.hid (D4.out.cell 1 (.int .i64 v) (D4.out.var.set1 v))
    generalize w4.setCell ⟨J, 1, none⟩ (.int .i64 v) = w5 at D5 ⊢
    clear D4
    have x0 := D5.out.var.c0
    have x1 := D5.out.var.c1
    have x2 := D5.out.var.c2
    have x3 := D5.out.var.c3
    have x4 := D5.out.var.c4
    have q0 := D5.out.res.c0; have f0 := D5.out.res.f 0
    have q1 := D5.out.res.c1; have f1 := D5.out.res.f 1
    have q2 := D5.out.res.c2; have f2 := D5.out.res.f 2
    have q3 := D5.out.res.c3; have f3 := D5.out.res.f 3
    have q4 := D5.out.res.c4; have f4 := D5.out.res.f 4
    go_wp2_with fail
    clear x0 x1 x2 x3 x4 q0 q1 q2 q3 q4 f0 f1 f2 f3 f4
    change bodyPost _ _ _ _ _ (setDesc w5 w.heap.size n v z u c)
    obtain ⟨SF, SS, GG⟩ := D5.out.fin
    generalize setDesc w5 w.heap.size n v z u c = wz at SF SS GG ⊢
    have e0 := SF.c0; have e1 := SF.c1; have e2 := SF.c2; have e3 := SF.c3; have e4 := SF.c4
    exact bodyPost_ret (v := .agg #[.int .i64 n, .int .i64 v, .int .i64 z, .int .i64 u, .bool c]) (by simp [results, Tryz.results163, go_sem, e0, e1, e2, e3, e4]) rfl ⟨_, _, _, _, _, rfl, SS, GG⟩
  have t1 : (y == 1) = false := by simp [h1]
  by_cases h2 : y = 2
  · subst h2
    clear t0 h0
    clear t1 h1
    have DT := Lib.hid (D3.out.call (Below.alloc (Below.refl w3.heap.size w3) (Nat.le_refl _) (.cells #[.int .i64 (-1), .int .i64 0, .int .i64 32, .int .i64 33] 2)))
    have hpl := D3.out.src.lt
    go_wp2_with fail
    refine (next_any _ _ _ DT.out.src (by omega)).mono ?_
    rintro e w4 ⟨x, rfl, x0, x1, -, hs4, g4⟩
    replace x1 := x1 (by omega)
    obtain ⟨x, rfl⟩ := Int.eq_ofNat_of_zero_le x0
    have hx : x < 4 := by omega
    obtain ⟨v, hv⟩ : ∃ v : Int, (#[.int .i64 (-1), .int .i64 0, .int .i64 32, .int .i64 33] : Array Value)[x]? = some (.int .i64 v) := by
      match x, hx with
      | 0, _ => exact ⟨_, rfl⟩
      | 1, _ => exact ⟨_, rfl⟩
      | 2, _ => exact ⟨_, rfl⟩
      | 3, _ => exact ⟨_, rfl⟩
    have hct := (table_cell g4 hpl x).trans hv
    have D4 := Lib.hid (DT.out.next hs4 g4)
    clear hs4 g4 DT D3 x0 hv hx hpl
    have cc := D4.out.var.c2; have ff := D4.out.var.f 2
    go_upto_region 13 with fail
    clear cc ff hct x1
    have D5 := Lib.hid (D4.out.cell 2 (.int .i64 v) (D4.out.var.set2 v))
    generalize w4.setCell ⟨J, 2, none⟩ (.int .i64 v) = w5 at D5 ⊢
    clear D4
    have x0 := D5.out.var.c0
    have x1 := D5.out.var.c1
    have x2 := D5.out.var.c2
    have x3 := D5.out.var.c3
    have x4 := D5.out.var.c4
    have q0 := D5.out.res.c0; have f0 := D5.out.res.f 0
    have q1 := D5.out.res.c1; have f1 := D5.out.res.f 1
    have q2 := D5.out.res.c2; have f2 := D5.out.res.f 2
    have q3 := D5.out.res.c3; have f3 := D5.out.res.f 3
    have q4 := D5.out.res.c4; have f4 := D5.out.res.f 4
    go_wp2_with fail
    clear x0 x1 x2 x3 x4 q0 q1 q2 q3 q4 f0 f1 f2 f3 f4
    change bodyPost _ _ _ _ _ (setDesc w5 w.heap.size n a v u c)
    obtain ⟨SF, SS, GG⟩ := D5.out.fin
    generalize setDesc w5 w.heap.size n a v u c = wz at SF SS GG ⊢
    have e0 := SF.c0; have e1 := SF.c1; have e2 := SF.c2; have e3 := SF.c3; have e4 := SF.c4
    exact bodyPost_ret (v := .agg #[.int .i64 n, .int .i64 a, .int .i64 v, .int .i64 u, .bool c]) (by simp [results, Tryz.results163, go_sem, e0, e1, e2, e3, e4]) rfl ⟨_, _, _, _, _, rfl, SS, GG⟩
  have t2 : (y == 2) = false := by simp [h2]
  by_cases h3 : y = 3
  · subst h3
    clear t0 h0
    clear t1 h1
    clear t2 h2
    have hcl := fun (W : World) => l08Cells_any a z W HOK.out.1 HOK.out.2.1
    have hin := cells_in a z
    generalize cellsOf8 a z = y' at hcl hin
    have HC := Lib.hid hcl; clear hcl
    obtain ⟨g, hg⟩ : ∃ g, y' + 20 - 1 = g := ⟨_, rfl⟩
    have hw : IntKind.i64.wrap (y' + 20) = y' + 20 := by rw [IntKind.wrap_i64]; omega
    have hw2 : IntKind.i64.wrap (y' + 20 - 1) = g := by rw [IntKind.wrap_i64]; omega
    clear hin hg
    have c1 := D3.out.var.c1; have c2 := D3.out.var.c2
    go_wp2_with fail
    refine (HC.out _).mono ?_
    rintro e w6 ⟨rfl, rfl⟩
    have DT := Lib.hid (D3.out.call (Below.alloc (Below.refl w3.heap.size w3) (Nat.le_refl _) (.cells #[.int .i64 0, .int .i64 g, .int .i64 1000, .int .i64 1001] 2)))
    have hpl := D3.out.src.lt
    go_wp2_with fail
    refine (next_any _ _ _ DT.out.src (by omega)).mono ?_
    rintro e w4 ⟨x, rfl, x0, x1, -, hs4, g4⟩
    replace x1 := x1 (by omega)
    obtain ⟨x, rfl⟩ := Int.eq_ofNat_of_zero_le x0
    have hx : x < 4 := by omega
    obtain ⟨v, hv⟩ : ∃ v : Int, (#[.int .i64 0, .int .i64 g, .int .i64 1000, .int .i64 1001] : Array Value)[x]? = some (.int .i64 v) := by
      match x, hx with
      | 0, _ => exact ⟨_, rfl⟩
      | 1, _ => exact ⟨_, rfl⟩
      | 2, _ => exact ⟨_, rfl⟩
      | 3, _ => exact ⟨_, rfl⟩
    have hct := (table_cell g4 hpl x).trans hv
    have D4 := Lib.hid (DT.out.next hs4 g4)
    clear hs4 g4 DT D3 x0 hv hx hpl
    have cc := D4.out.var.c3; have ff := D4.out.var.f 3
    go_upto_region 13 with fail
    clear cc ff hct x1
    have D5 := Lib.hid (D4.out.cell 3 (.int .i64 v) (D4.out.var.set3 v))
    generalize w4.setCell ⟨J, 3, none⟩ (.int .i64 v) = w5 at D5 ⊢
    clear D4
    have x0 := D5.out.var.c0
    have x1 := D5.out.var.c1
    have x2 := D5.out.var.c2
    have x3 := D5.out.var.c3
    have x4 := D5.out.var.c4
    have q0 := D5.out.res.c0; have f0 := D5.out.res.f 0
    have q1 := D5.out.res.c1; have f1 := D5.out.res.f 1
    have q2 := D5.out.res.c2; have f2 := D5.out.res.f 2
    have q3 := D5.out.res.c3; have f3 := D5.out.res.f 3
    have q4 := D5.out.res.c4; have f4 := D5.out.res.f 4
    go_wp2_with fail
    clear x0 x1 x2 x3 x4 q0 q1 q2 q3 q4 f0 f1 f2 f3 f4
    change bodyPost _ _ _ _ _ (setDesc w5 w.heap.size n a z v c)
    obtain ⟨SF, SS, GG⟩ := D5.out.fin
    generalize setDesc w5 w.heap.size n a z v c = wz at SF SS GG ⊢
    have e0 := SF.c0; have e1 := SF.c1; have e2 := SF.c2; have e3 := SF.c3; have e4 := SF.c4
    exact bodyPost_ret (v := .agg #[.int .i64 n, .int .i64 a, .int .i64 z, .int .i64 v, .bool c]) (by simp [results, Tryz.results163, go_sem, e0, e1, e2, e3, e4]) rfl ⟨_, _, _, _, _, rfl, SS, GG⟩
  have t3 : (y == 3) = false := by simp [h3]
  by_cases h4 : y = 4
  · subst h4
    clear t0 h0
    clear t1 h1
    clear t2 h2
    clear t3 h3
    have cc := D3.out.var.c4; have ff := D3.out.var.f 4
    go_upto_region 13 with fail
    clear cc ff
    have D5 := Lib.hid (D3.out.cell 4 (.bool (!c)) (D3.out.var.set4 (!c)))
    generalize w3.setCell ⟨J, 4, none⟩ (.bool (!c)) = w5 at D5 ⊢
    clear D3
    have x0 := D5.out.var.c0
    have x1 := D5.out.var.c1
    have x2 := D5.out.var.c2
    have x3 := D5.out.var.c3
    have x4 := D5.out.var.c4
    have q0 := D5.out.res.c0; have f0 := D5.out.res.f 0
    have q1 := D5.out.res.c1; have f1 := D5.out.res.f 1
    have q2 := D5.out.res.c2; have f2 := D5.out.res.f 2
    have q3 := D5.out.res.c3; have f3 := D5.out.res.f 3
    have q4 := D5.out.res.c4; have f4 := D5.out.res.f 4
    go_wp2_with fail
    clear x0 x1 x2 x3 x4 q0 q1 q2 q3 q4 f0 f1 f2 f3 f4
    change bodyPost _ _ _ _ _ (setDesc w5 w.heap.size n a z u (!c))
    obtain ⟨SF, SS, GG⟩ := D5.out.fin
    generalize setDesc w5 w.heap.size n a z u (!c) = wz at SF SS GG ⊢
    have e0 := SF.c0; have e1 := SF.c1; have e2 := SF.c2; have e3 := SF.c3; have e4 := SF.c4
    exact bodyPost_ret (v := .agg #[.int .i64 n, .int .i64 a, .int .i64 z, .int .i64 u, .bool (!c)]) (by simp [results, Tryz.results163, go_sem, e0, e1, e2, e3, e4]) rfl ⟨_, _, _, _, _, rfl, SS, GG⟩
  have t4 : (y == 4) = false := by simp [h4]
  go_upto_region 13 with fail
  clear t0 t1 t2 t3 t4 h0 h1 h2 h3 h4
  have x0 := D3.out.var.c0
  have x1 := D3.out.var.c1
  have x2 := D3.out.var.c2
  have x3 := D3.out.var.c3
  have x4 := D3.out.var.c4
  have q0 := D3.out.res.c0; have f0 := D3.out.res.f 0
  have q1 := D3.out.res.c1; have f1 := D3.out.res.f 1
  have q2 := D3.out.res.c2; have f2 := D3.out.res.f 2
  have q3 := D3.out.res.c3; have f3 := D3.out.res.f 3
  have q4 := D3.out.res.c4; have f4 := D3.out.res.f 4
  go_wp2_with fail
  clear x0 x1 x2 x3 x4 q0 q1 q2 q3 q4 f0 f1 f2 f3 f4
  change bodyPost _ _ _ _ _ (setDesc w3 w.heap.size n a z u c)
  obtain ⟨SF, SS, GG⟩ := D3.out.fin
  generalize setDesc w3 w.heap.size n a z u c = wz at SF SS GG ⊢
  have e0 := SF.c0; have e1 := SF.c1; have e2 := SF.c2; have e3 := SF.c3; have e4 := SF.c4
  exact bodyPost_ret (v := .agg #[.int .i64 n, .int .i64 a, .int .i64 z, .int .i64 u, .bool c]) (by simp [results, Tryz.results163, go_sem, e0, e1, e2, e3, e4]) rfl ⟨_, _, _, _, _, rfl, SS, GG⟩
end

section
open Go.RowKit
def anyT (t : List Nd) : Prop := t.length ≤ 5 ∧ shortN t
theorem anyT.small {t : List Nd} (h : anyT t) : smallN t := h.2.small
theorem anyT_set {t : List Nd} {k : Nat} {y : Nd} (h : anyT t) (hy : y.name.size ≤ 30) : anyT (t.set k y) :=
  ⟨by rw [List.length_set]; exact h.1, fun x hx => by
    rcases List.mem_or_eq_of_mem_set hx with hx | rfl
    · exact h.2 x hx
    · exact hy⟩
theorem drNd.short {t : List Nd} (h : drNd t) : shortN t := fun x hx => (h x hx).2
theorem three_cell {cs : Array Value} {a b c : Int} (h : cs = #[.int .i64 a, .int .i64 b, .int .i64 c]) {z : Nat} (hz : z < 3) : ∃ v : Int, cs[z]? = some (.int .i64 v) := by
  subst h
  match z, hz with
  | 0, _ => exact ⟨_, rfl⟩
  | 1, _ => exact ⟨_, rfl⟩
  | 2, _ => exact ⟨_, rfl⟩
theorem five_str {cs : Array Value} {a b c d e : ByteArray} (h : cs = #[.string a, .string b, .string c, .string d, .string e]) (hs : a.size ≤ 30 ∧ b.size ≤ 30 ∧ c.size ≤ 30 ∧ d.size ≤ 30 ∧ e.size ≤ 30) {z : Nat} (hz : z < 5) : ∃ v : ByteArray, cs[z]? = some (.string v) ∧ v.size ≤ 30 := by
  subst h
  match z, hz with
  | 0, _ => exact ⟨_, rfl, hs.1⟩
  | 1, _ => exact ⟨_, rfl, hs.2.1⟩
  | 2, _ => exact ⟨_, rfl, hs.2.2.1⟩
  | 3, _ => exact ⟨_, rfl, hs.2.2.2.1⟩
  | 4, _ => exact ⟨_, rfl, hs.2.2.2.2⟩
set_option maxHeartbeats 2000000 in
set_option maxRecDepth 100000 in
theorem l10DrawAny_any (p : Nat) (w : World) (hs : Src 172 w p) : Calls Tryz.prog 161 #[.pointer (some ⟨p, 0, none⟩)] w (DrawnTab anyT w p) := by
  have hp := hs.lt
  have HC := Lib.hid (l10Draw_any p w hs); clear hs
  go_enter Tryz.func161, Tryz.ntmps161
  go_wp2_with fail
  refine HC.out.mono ?_
  rintro e w1 ⟨v, t, rfl, o1, ⟨hl1, hl2, hdr⟩, hs1, g1⟩
  obtain ⟨ao, cap, rfl, r1, hcap, hmax, hcase⟩ := o1.form
  have hg : ∃ g, ao = some ⟨g, 0, none⟩ := by
    rcases hcase with h | ⟨g, h, -⟩
    · simp only [Value.slice.injEq] at h; omega
    · exact ⟨g, h⟩
  obtain ⟨g, rfl⟩ := hg
  obtain ⟨n, hn⟩ : ∃ n, n = t.length := ⟨_, rfl⟩
  rw [← hn] at o1 hl1 hl2 hcap ⊢
  have hcm : cap ≤ 9223372036854775807 := by unfold maxLen at hmax; omega
  have HN := Lib.hid hn; have HAny := Lib.hid (show anyT t from ⟨by omega, hdr.short⟩)
  have HO1 := Lib.hid o1; have HS1 := Lib.hid hs1; have HG1 := Lib.hid g1
  clear o1 hs1 g1 r1 hdr hcase hmax hn
  go_wp2_with fail
  refine (next_any _ _ _ HS1.out (by omega)).mono ?_
  rintro e w2 ⟨k, rfl, hk0, hk1, hk2, hs2, g2⟩
  obtain ⟨k, rfl⟩ := Int.eq_ofNat_of_zero_le hk0
  have hkn : k < n := by
    by_cases h : 1 < (n : Int)
    · have := hk1 h; omega
    · have := hk2 (by omega); omega
  have HO2 := Lib.hid (HO1.out.src g2 hp); have HS2 := Lib.hid hs2; have HG2 := Lib.hid (grown_trans HG1.out g2)
  clear hk0 hk1 hk2 hs2 g2 HO1 HS1 HG1
  go_wp2_with fail
  refine (next_any _ _ _ HS2.out (by omega)).mono ?_
  rintro e w3 ⟨y, rfl, hy0, -, -, hs3, g3⟩
  have HO3 := Lib.hid (HO2.out.src g3 hp); have HS3 := Lib.hid hs3; have HG3 := Lib.hid (grown_trans HG2.out g3)
  clear hs3 g3 HO2 HS2 HG2
  have hkni : (k : Int) < (n : Int) := by omega
  have hkc : (k : Int) < (cap : Int) := by omega
  have hk0 : (0 : Int) ≤ (k : Int) := by omega
  have hkt : k < t.length := by rw [← HN.out]; exact hkn
  by_cases h0 : y = 0
  · subst h0
    have hbl : Below w3.heap.size w3 (w3.alloc (.cells #[.int .i64 (-1), .int .i64 31, .int .i64 32] 2)) := (Below.refl _ _).alloc (Nat.le_refl _) _
    have HSB := Lib.hid (HS3.out.below hbl); have HOB := Lib.hid (HO3.out.below hbl); have HGB := Lib.hid (grown_trans HG3.out (grown_of_below hbl))
    have hp3 : p < w3.heap.size := HS3.out.lt
    have HP3 := Lib.hid hp3; clear hbl hp3 HS3 HO3 HG3
    go_wp2_with fail
    refine (next_any _ _ _ HSB.out (by omega)).mono ?_
    rintro e w4 ⟨z, rfl, hz0, hz1, -, hs4, g4⟩
    have hz2 : z < 3 := hz1 (by omega)
    obtain ⟨z, rfl⟩ := Int.eq_ofNat_of_zero_le hz0
    have hz3 : z < 3 := by omega
    obtain ⟨u, hu⟩ := three_cell (cs := #[.int .i64 (-1), .int .i64 31, .int .i64 32]) rfl hz3
    have hcell : w4.cell? ⟨w3.heap.size, z, none⟩ = some (.int .i64 u) := (table_cell g4 HP3.out z).trans hu
    have HO4 := Lib.hid (HOB.out.src g4 hp); have HS4 := Lib.hid hs4; have HG4 := Lib.hid (grown_trans HGB.out g4)
    clear hz1 hs4 g4 HOB HSB HGB hu hz3
    have hin := (HO4.out.store HN.out.symm hkn Nd.zero).1
    generalize hxe : ndOf t k = x at hin
    obtain ⟨xi, xn, xf, xp⟩ := x
    obtain ⟨c0, c1, c2, c3⟩ := hin
    obtain ⟨f0, o5, b5⟩ := HO4.out.field (j := 0) (u := .int .i64 u) (y := ⟨u, xn, xf, xp⟩) HN.out.symm hkn (by omega) (by rw [hxe]; rfl)
    have hnm : xn.size ≤ 30 := by have h := HAny.out.2 _ (ndOf_mem hkt); rw [hxe] at h; exact h
    have HO5 := Lib.hid o5
    have HS5 := Lib.hid (HS4.out.belowB b5 hp); have HG5 := Lib.hid (grown_step HG4.out b5 (Nat.le_refl _))
    have HA5 := Lib.hid (anyT_set (k := k) (y := ⟨u, xn, xf, xp⟩) HAny.out hnm)
    clear o5 b5 hxe HS4 HG4
    simp only [Nat.add_zero] at f0 HO5 HS5 HG5
    go_wp2_with fail
    go_ret
    exact ⟨_, _, rfl, HO5.out, HA5.out, HS5.out, HG5.out⟩
  have t0 : (y == 0) = false := by simp [h0]
  clear h0
  by_cases h1 : y = 1
  · subst h1
    have hbl : Below w3.heap.size w3 (w3.alloc (.cells #[.string { data := #[] }, .string { data := #[115, 101, 118, 101, 110, 110, 55] }, .string { data := #[115, 105, 120, 120, 120, 54] }, .string { data := #[78, 49] }, .string { data := #[110, 48] }] 9)) := (Below.refl _ _).alloc (Nat.le_refl _) _
    have HSB := Lib.hid (HS3.out.below hbl); have HOB := Lib.hid (HO3.out.below hbl); have HGB := Lib.hid (grown_trans HG3.out (grown_of_below hbl))
    have hp3 : p < w3.heap.size := HS3.out.lt
    have HP3 := Lib.hid hp3; clear hbl hp3 HS3 HO3 HG3
    go_wp2_with fail
    refine (next_any _ _ _ HSB.out (by omega)).mono ?_
    rintro e w4 ⟨z, rfl, hz0, hz1, -, hs4, g4⟩
    have hz2 : z < 5 := hz1 (by omega)
    obtain ⟨z, rfl⟩ := Int.eq_ofNat_of_zero_le hz0
    have hz3 : z < 5 := by omega
    obtain ⟨u, hu, hus⟩ := five_str (cs := #[.string { data := #[] }, .string { data := #[115, 101, 118, 101, 110, 110, 55] }, .string { data := #[115, 105, 120, 120, 120, 54] }, .string { data := #[78, 49] }, .string { data := #[110, 48] }]) rfl (by decide) hz3
    have hcell : w4.cell? ⟨w3.heap.size, z, none⟩ = some (.string u) := (table_cell g4 HP3.out z).trans hu
    have HO4 := Lib.hid (HOB.out.src g4 hp); have HS4 := Lib.hid hs4; have HG4 := Lib.hid (grown_trans HGB.out g4)
    clear hz1 hs4 g4 HOB HSB HGB hu hz3
    have hin := (HO4.out.store HN.out.symm hkn Nd.zero).1
    generalize hxe : ndOf t k = x at hin
    obtain ⟨xi, xn, xf, xp⟩ := x
    obtain ⟨c0, c1, c2, c3⟩ := hin
    obtain ⟨f0, o5, b5⟩ := HO4.out.field (j := 1) (u := .string u) (y := ⟨xi, u, xf, xp⟩) HN.out.symm hkn (by omega) (by rw [hxe]; rfl)
    have hnm : xn.size ≤ 30 := by have h := HAny.out.2 _ (ndOf_mem hkt); rw [hxe] at h; exact h
    have HO5 := Lib.hid o5
    have HS5 := Lib.hid (HS4.out.belowB b5 hp); have HG5 := Lib.hid (grown_step HG4.out b5 (Nat.le_refl _))
    have HA5 := Lib.hid (anyT_set (k := k) (y := ⟨xi, u, xf, xp⟩) HAny.out hus)
    clear o5 b5 hxe HS4 HG4
    go_wp2_with fail
    go_ret
    exact ⟨_, _, rfl, HO5.out, HA5.out, HS5.out, HG5.out⟩
  have t1 : (y == 1) = false := by simp [h1]
  clear h1
  by_cases h2 : y = 2
  · subst h2
    have hbl : Below w3.heap.size w3 (w3.alloc (.cells #[.int .i64 (-1), .int .i64 1000, .int .i64 1001] 2)) := (Below.refl _ _).alloc (Nat.le_refl _) _
    have HSB := Lib.hid (HS3.out.below hbl); have HOB := Lib.hid (HO3.out.below hbl); have HGB := Lib.hid (grown_trans HG3.out (grown_of_below hbl))
    have hp3 : p < w3.heap.size := HS3.out.lt
    have HP3 := Lib.hid hp3; clear hbl hp3 HS3 HO3 HG3
    go_wp2_with fail
    refine (next_any _ _ _ HSB.out (by omega)).mono ?_
    rintro e w4 ⟨z, rfl, hz0, hz1, -, hs4, g4⟩
    have hz2 : z < 3 := hz1 (by omega)
    obtain ⟨z, rfl⟩ := Int.eq_ofNat_of_zero_le hz0
    have hz3 : z < 3 := by omega
    obtain ⟨u, hu⟩ := three_cell (cs := #[.int .i64 (-1), .int .i64 1000, .int .i64 1001]) rfl hz3
    have hcell : w4.cell? ⟨w3.heap.size, z, none⟩ = some (.int .i64 u) := (table_cell g4 HP3.out z).trans hu
    have HO4 := Lib.hid (HOB.out.src g4 hp); have HS4 := Lib.hid hs4; have HG4 := Lib.hid (grown_trans HGB.out g4)
    clear hz1 hs4 g4 HOB HSB HGB hu hz3
    have hin := (HO4.out.store HN.out.symm hkn Nd.zero).1
    generalize hxe : ndOf t k = x at hin
    obtain ⟨xi, xn, xf, xp⟩ := x
    obtain ⟨c0, c1, c2, c3⟩ := hin
    obtain ⟨f0, o5, b5⟩ := HO4.out.field (j := 2) (u := .int .i64 u) (y := ⟨xi, xn, u, xp⟩) HN.out.symm hkn (by omega) (by rw [hxe]; rfl)
    have hnm : xn.size ≤ 30 := by have h := HAny.out.2 _ (ndOf_mem hkt); rw [hxe] at h; exact h
    have HO5 := Lib.hid o5
    have HS5 := Lib.hid (HS4.out.belowB b5 hp); have HG5 := Lib.hid (grown_step HG4.out b5 (Nat.le_refl _))
    have HA5 := Lib.hid (anyT_set (k := k) (y := ⟨xi, xn, u, xp⟩) HAny.out hnm)
    clear o5 b5 hxe HS4 HG4
    go_wp2_with fail
    go_ret
    exact ⟨_, _, rfl, HO5.out, HA5.out, HS5.out, HG5.out⟩
  have t2 : (y == 2) = false := by simp [h2]
  clear h2
  by_cases h3 : y = 3
  · subst h3
    have hin := (HO3.out.store HN.out.symm hkn Nd.zero).1
    have hnm : (ndOf t k).name.size ≤ 30 := HAny.out.2 _ (ndOf_mem hkt)
    generalize hxe : ndOf t k = x at hin hnm
    obtain ⟨c0, c1, c2, c3⟩ := hin
    have hX : NdAt 130 (w3.alloc (.cells #[.int .i64 x.id, .string x.name, .int .i64 x.drift, .bool x.pas] 130)) w3.heap.size x := NdAt.new _
    have HX := Lib.hid hX
    have hap : anyT (t ++ [x]) := ⟨by rw [List.length_append, List.length_singleton, ← HN.out]; omega, fun z hz => by
      rcases List.mem_append.1 hz with hz | hz
      · exact HAny.out.2 z hz
      · rw [List.mem_singleton] at hz; subst hz; exact hnm⟩
    have HAP := Lib.hid hap
    have htl : t.length ≤ 5 := by rw [← HN.out]; omega
    clear hX hap hxe hnm
    go_wp2_with (at_builtin; refine append_nd _ rfl (.tmp 48) (.tmp 53) rfl w.heap.size Tryz.underlying24 infoNd _ t rfl (HO3.out.below ((Below.refl _ _).alloc (Nat.le_refl _) _)) _ x _ rfl HX.out.in_ (by omega) (by have := HG3.out.size; simp; omega) ?_; intro v6 w6 o6 b6)
    have hb6 : Below w.heap.size w3 w6 := ((Below.refl _ _).alloc HG3.out.size _).trans b6
    have HO6 := Lib.hid o6; have HS6 := Lib.hid (HS3.out.belowB hb6 hp); have HG6 := Lib.hid (grown_step HG3.out hb6 (Nat.le_refl _))
    clear o6 b6 hb6 c0 c1 c2 c3
    go_wp2_with fail
    go_ret
    exact ⟨_, _, rfl, HO6.out, HAP.out, HS6.out, HG6.out⟩
  have t3 : (y == 3) = false := by simp [h3]
  clear h3
  by_cases h4 : y = 4
  · subst h4
    go_wp2_with fail
    go_ret
    exact ⟨_, [], rfl, OwnN.nil_, ⟨by simp, fun x hx => by cases hx⟩, HS3.out, HG3.out⟩
  have t4 : (y == 4) = false := by simp [h4]
  clear h4
  go_wp2_with fail
  go_ret
  exact ⟨_, t, rfl, HO3.out, HAny.out, HS3.out, HG3.out⟩
end

section
open Go.RowKit
def anyMc (cs : List Mc) : Prop := cs.length ≤ 17 ∧ ∀ c ∈ cs, c.md.next.length ≤ 5
def DrawnMC (w : World) (p : Nat) (e : Ending) (w' : World) : Prop :=
  ∃ ao n cap cs, e = .returned (.slice ao n cap) ∧ RdM w' ao n cs ∧ LowM w.heap.size ao cs ∧ anyMc cs ∧ Src 172 w' p ∧ w.grownBy w' (some p) ∧ n ≤ cap ∧ cap ≤ 9223372036854775807
theorem anyMc_set {cs : List Mc} {k : Nat} {y : Mc} (h : anyMc cs) (hy : y.md.next.length ≤ 5) : anyMc (cs.set k y) :=
  ⟨by rw [List.length_set]; exact h.1, fun c hc => by
    rcases List.mem_or_eq_of_mem_set hc with hc | rfl
    · exact h.2 c hc
    · exact hy⟩
theorem three_ints {cs : Array Value} {a b c : Int} (h : cs = #[.int .i64 a, .int .i64 b, .int .i64 c]) {z : Nat} (hz : z < 3) : ∃ v : Int, cs[z]? = some (.int .i64 v) := by
  subst h
  match z, hz with
  | 0, _ => exact ⟨_, rfl⟩
  | 1, _ => exact ⟨_, rfl⟩
  | 2, _ => exact ⟨_, rfl⟩
def LitAt (E : Nat) (w : World) (b : Nat) (cs : Array Value) : Prop := w.heap[b]? = some (.cells cs E (0, 0))
section
variable {w w' : World} {E EI base g n cap p b : Nat} {cs : List Mc} {lits : Array Value}
theorem LitAt.new (w : World) : LitAt E (w.alloc (.cells lits E)) w.heap.size lits := heap_alloc_new w _
theorem LitAt.lt (h : LitAt E w b lits) : b < w.heap.size := (Array.getElem?_eq_some_iff.1 h).1
theorem LitAt.below (h : LitAt E w b lits) (hb : Below w.heap.size w w') : LitAt E w' b lits := (hb.block b h.lt).trans h
theorem LitAt.src (h : LitAt E w b lits) (hg : w.grownBy w' (some p)) (hne : p < b) : LitAt E w' b lits := (hg.block b h.lt (fun e => by cases e; omega)).trans h
theorem LitAt.cell (h : LitAt E w b lits) (z : Nat) : w.cell? ⟨b, z, none⟩ = lits[z]? := cell_of_row w b z _ _ (0, 0) h
theorem OwnM.in_ (ho : OwnM E EI w base (.slice (some ⟨g, 0, none⟩) n cap) cs) (hl : cs.length = n) {k : Nat} (hk : k < n) : McIn w g (k * 3) (mcOf cs k) := by
  have h := ho.row
  rw [hl] at h
  exact rowM_in h hl hk
theorem OwnM.fieldI (hne : E ≠ EI) (ho : OwnM E EI w base (.slice (some ⟨g, 0, none⟩) n cap) cs) (hl : cs.length = n) {k : Nat} (hk : k < n) {j : Nat} (hj : j < 3) {u : Value} {y : Mc} (e : mcCells y = (mcCells (mcOf cs k)).set j u) (ev : y.v = (mcOf cs k).v) (en : y.md.next = (mcOf cs k).md.next) :
    w.frozen? ⟨g, k * 3 + j, none⟩ = false ∧ (RdM (w.setCell ⟨g, k * 3 + j, none⟩ u) (some ⟨g, 0, none⟩) n (cs.set k y) ∧ LowM base (some ⟨g, 0, none⟩) (cs.set k y)) ∧ Below base w (w.setCell ⟨g, k * 3 + j, none⟩ u) := by
  have h := ho.row
  rw [hl] at h
  obtain ⟨f, r⟩ := rowM_field h hl hk hj e
  have ht := ho.turned hne (grown_set' w g (k * 3 + j) u) (.inr rfl)
  have hls : (cs.set k y).length = n := by rw [List.length_set, hl]
  refine ⟨f, ?_, (Below.refl _ _).setCell (ho.block g rfl).1 _⟩
  rw [← hls] at r
  obtain ⟨ao, cap', e2, hr⟩ := rdM_row r (fun c hc => by
    rcases List.mem_or_eq_of_mem_set hc with hc | rfl
    · exact ht c hc
    · rw [ev, en]; exact ht _ (mcOf_mem (by omega)))
  rw [hls] at e2 hr
  cases e2
  exact hr
theorem OwnM.fieldN {w1 : World} (hne : E ≠ EI) (ho : OwnM E EI w base (.slice (some ⟨g, 0, none⟩) n cap) cs) (hl : cs.length = n) {k : Nat} (hk : k < n) {r s : Int} {xs : List Int} {xo : Option Addr} {xc : Nat} (hx : mcOf cs k = ⟨⟨r, s, xs⟩, xo, xc⟩)
    {ys : List Int} {yo : Option Addr} {yc : Nat} (hB : base ≤ w.heap.size) (g1 : w.grownBy w1 (Value.slice xo xs.length xc).ownBlock) (o1 : Own EI w1 base (.slice yo ys.length yc) ys) :
    w1.cell? ⟨g, k * 3 + 2, none⟩ = some (.slice xo xs.length xc) ∧ w1.frozen? ⟨g, k * 3 + 2, none⟩ = false ∧ RdM (w1.setCell ⟨g, k * 3 + 2, none⟩ (.slice yo ys.length yc)) (some ⟨g, 0, none⟩) n (cs.set k ⟨⟨r, s, ys⟩, yo, yc⟩) ∧ LowM base (some ⟨g, 0, none⟩) (cs.set k ⟨⟨r, s, ys⟩, yo, yc⟩) ∧ Below base w (w1.setCell ⟨g, k * 3 + 2, none⟩ (.slice yo ys.length yc)) := by
  have hkl : k < cs.length := by omega
  have hxn : Own EI w base (.slice xo xs.length xc) xs := by
    have := ho.nx _ (mcOf_mem hkl)
    rw [hx] at this
    exact this
  have hrow : w1.ownsRow base E 3 (.slice (some ⟨g, 0, none⟩) n cap) n (cs.flatMap mcCells) := by
    have h := ho.row
    rw [hl] at h
    refine World.ownsRow.kept h g1 (.inr (fun e => ?_))
    exact rows_ne h (show w.ownsRow base EI 1 (.slice xo xs.length xc) _ _ from hxn) hne g rfl e.symm
  have hin := rowM_in hrow hl hk
  rw [hx] at hin
  obtain ⟨f, hr⟩ := rowM_field (j := 2) (u := .slice yo ys.length yc) (y := ⟨⟨r, s, ys⟩, yo, yc⟩) hrow hl hk (by omega) (by rw [hx]; rfl)
  have hls : (cs.set k (⟨⟨r, s, ys⟩, yo, yc⟩ : Mc)).length = n := by rw [List.length_set, hl]
  have hgb : base ≤ g := (ho.block g rfl).1
  have hset : ∀ (v : Value) (zs : List Int), Own EI w1 base v zs → Own EI (w1.setCell ⟨g, k * 3 + 2, none⟩ (.slice yo ys.length yc)) base v zs := fun v zs h => by
    refine h.only (grown_set' w1 g (k * 3 + 2) _) ?_
    rcases hb : v.ownBlock with _ | j
    · exact .inl rfl
    · exact .inr (fun e => rows_ne (show w1.ownsRow base EI 1 v _ _ from h) hrow (fun e => hne e.symm) j hb (by rw [e]; rfl))
  have hbw : Below base w w1 := (Below.refl base w).grown g1 hB (fun j e => (hxn.block j e).1)
  refine ⟨hin.c2, f, ?_⟩
  rw [← hls] at hr
  obtain ⟨ao, cap', e2, hr2⟩ := rdM_row hr (fun c hc => by
    obtain ⟨i, hi, e⟩ := List.getElem_of_mem hc
    rw [List.length_set] at hi
    rw [List.getElem_set] at e
    by_cases hik : k = i
    · rw [if_pos hik] at e
      subst e
      exact hset _ _ o1
    · rw [if_neg hik] at e
      subst e
      refine hset _ _ ((ho.nx _ (List.getElem_mem hi)).only g1 ?_)
      rcases hb : (cs[i]).v.ownBlock with _ | j
      · exact .inl rfl
      · refine .inr (fun e => ?_)
        have hxe : cs[k].v = .slice xo xs.length xc := by rw [← mcOf_get hkl, hx]; rfl
        rcases Nat.lt_or_gt_of_ne hik with hlt | hlt
        · exact List.pairwise_iff_getElem.1 ho.apart k i hkl hi hlt j (by rw [hxe, ← e]) hb
        · exact List.pairwise_iff_getElem.1 ho.apart i k hi hkl hlt j hb (by rw [hxe, ← e]))
  rw [hls] at e2 hr2
  cases e2
  exact ⟨hr2.1, hr2.2, hbw.setCell hgb _⟩
end
set_option maxHeartbeats 4000000 in
set_option maxRecDepth 100000 in
set_option linter.unusedSimpArgs false in
theorem l11DrawAny_cap (p : Nat) (w : World) (hs : Src 172 w p) : Calls Tryz.prog 162 #[.pointer (some ⟨p, 0, none⟩)] w (DrawnMC w p) := by
  have hp := hs.lt
  have HC := Lib.hid (l11Draw_any p w hs); clear hs
  go_enter Tryz.func162, Tryz.ntmps162
  go_wp2_with fail
  refine HC.out.mono ?_
  rintro e w1 ⟨v, cs, rfl, o1, ⟨hl1, hl2⟩, hdr, hs1, g1⟩
  obtain ⟨ao, cap, rfl, r1, hcap, hmax, hcase⟩ := o1.form
  have hg : ∃ g, ao = some ⟨g, 0, none⟩ := by
    rcases hcase with h | ⟨g, h, -⟩
    · simp only [Value.slice.injEq] at h; omega
    · exact ⟨g, h⟩
  obtain ⟨g, rfl⟩ := hg
  obtain ⟨n, hn⟩ : ∃ n, n = cs.length := ⟨_, rfl⟩
  rw [← hn] at o1 hl1 hl2 hcap ⊢
  have hcm : cap ≤ 9223372036854775807 := by unfold maxLen at hmax; omega
  have HN := Lib.hid hn.symm; have HAny := Lib.hid (show anyMc cs from ⟨by omega, fun c hc => by have := hdr c hc; omega⟩); have HDR := Lib.hid hdr
  have HO1 := Lib.hid o1; have HS1 := Lib.hid hs1; have HG1 := Lib.hid g1
  clear o1 hs1 g1 r1 hdr hcase hmax hn HC
  go_wp2_with fail
  refine (next_any _ _ _ HS1.out (by omega)).mono ?_
  rintro e w2 ⟨k, rfl, hk0, hk1, hk2, hs2, g2⟩
  obtain ⟨k, rfl⟩ := Int.eq_ofNat_of_zero_le hk0
  have hkn : k < n := by
    by_cases h : 1 < (n : Int)
    · have := hk1 h; omega
    · have := hk2 (by omega); omega
  have HO2 := Lib.hid (HO1.out.old g2 hp); have HS2 := Lib.hid hs2; have HG2 := Lib.hid (grown_trans HG1.out g2)
  clear hk0 hk1 hk2 hs2 g2 HO1 HS1 HG1
  go_wp2_with fail
  refine (next_any _ _ _ HS2.out (by omega)).mono ?_
  rintro e w3 ⟨y, rfl, hy0, -, -, hs3, g3⟩
  have HO3 := Lib.hid (HO2.out.old g3 hp); have HS3 := Lib.hid hs3; have HG3 := Lib.hid (grown_trans HG2.out g3)
  clear hs3 g3 hy0 HO2 HS2 HG2
  have hkni : (k : Int) < (n : Int) := by omega
  have hkc : (k : Int) < (cap : Int) := by omega
  have hk0 : (0 : Int) ≤ (k : Int) := by omega
  have hkt : k < cs.length := by rw [HN.out]; exact hkn
  by_cases h0 : y = 0
  · subst h0
    have hbl : Below w3.heap.size w3 (w3.alloc (.cells #[.int .i64 0, .int .i64 8, .int .i64 9] 2)) := (Below.refl _ _).alloc (Nat.le_refl _) _
    have HSB := Lib.hid (HS3.out.below hbl); have HOB := Lib.hid (HO3.out.below hbl); have HGB := Lib.hid (grown_trans HG3.out (grown_of_below hbl))
    have hp3 : p < w3.heap.size := HS3.out.lt
    have HP3 := Lib.hid hp3; clear hbl hp3 HS3 HO3 HG3
    go_wp2_with fail
    refine (next_any _ _ _ HSB.out (by omega)).mono ?_
    rintro e w4 ⟨z, rfl, hz0, hz1, -, hs4, g4⟩
    have hz2 : z < 3 := hz1 (by omega)
    obtain ⟨z, rfl⟩ := Int.eq_ofNat_of_zero_le hz0
    have hz3 : z < 3 := by omega
    obtain ⟨u, hu⟩ := three_ints (cs := #[.int .i64 0, .int .i64 8, .int .i64 9]) rfl hz3
    have hcell : w4.cell? ⟨w3.heap.size, z, none⟩ = some (.int .i64 u) := (table_cell g4 HP3.out z).trans hu
    have HO4 := Lib.hid (HOB.out.old g4 hp); have HS4 := Lib.hid hs4; have HG4 := Lib.hid (grown_trans HGB.out g4)
    clear hz1 hs4 g4 HOB HSB HGB hu hz3
    have hin := HO4.out.in_ HN.out hkn
    obtain ⟨⟨⟨x0, x1, xs⟩, xo, xc⟩, hxe⟩ : ∃ x, mcOf cs k = x := ⟨_, rfl⟩
    rw [hxe] at hin
    obtain ⟨c0, c1, -⟩ := hin
    obtain ⟨f0, r5, b5⟩ := HO4.out.fieldI ne_md (j := 0) (u := .int .i64 u) (y := ⟨⟨u, x1, xs⟩, xo, xc⟩) HN.out hkn (by omega) (by rw [hxe]; rfl) (by rw [hxe]; rfl) (by rw [hxe])
    have hnm : xs.length ≤ 5 := by have h := HAny.out.2 _ (mcOf_mem hkt); rw [hxe] at h; exact h
    have HR5 := Lib.hid r5
    have HS5 := Lib.hid (HS4.out.belowB b5 hp); have HG5 := Lib.hid (grown_step HG4.out b5 (Nat.le_refl _))
    have HA5 := Lib.hid (anyMc_set (k := k) (y := ⟨⟨u, x1, xs⟩, xo, xc⟩) HAny.out hnm)
    clear r5 b5 hxe HS4 HG4
    simp only [Nat.add_zero] at c0 f0 HR5 HS5 HG5
    go_wp2_with fail
    go_ret
    exact ⟨_, _, _, _, rfl, HR5.out.1, HR5.out.2, HA5.out, HS5.out, HG5.out, hcap, hcm⟩
  have t0 : (y == 0) = false := by simp [h0]
  clear h0
  by_cases h1 : y = 1
  · subst h1
    have hbl : Below w3.heap.size w3 (w3.alloc (.cells #[.int .i64 0, .int .i64 16, .int .i64 17] 2)) := (Below.refl _ _).alloc (Nat.le_refl _) _
    have HSB := Lib.hid (HS3.out.below hbl); have HOB := Lib.hid (HO3.out.below hbl); have HGB := Lib.hid (grown_trans HG3.out (grown_of_below hbl))
    have hp3 : p < w3.heap.size := HS3.out.lt
    have HP3 := Lib.hid hp3; clear hbl hp3 HS3 HO3 HG3
    go_wp2_with fail
    refine (next_any _ _ _ HSB.out (by omega)).mono ?_
    rintro e w4 ⟨z, rfl, hz0, hz1, -, hs4, g4⟩
    have hz2 : z < 3 := hz1 (by omega)
    obtain ⟨z, rfl⟩ := Int.eq_ofNat_of_zero_le hz0
    have hz3 : z < 3 := by omega
    obtain ⟨u, hu⟩ := three_ints (cs := #[.int .i64 0, .int .i64 16, .int .i64 17]) rfl hz3
    have hcell : w4.cell? ⟨w3.heap.size, z, none⟩ = some (.int .i64 u) := (table_cell g4 HP3.out z).trans hu
    have HO4 := Lib.hid (HOB.out.old g4 hp); have HS4 := Lib.hid hs4; have HG4 := Lib.hid (grown_trans HGB.out g4)
    clear hz1 hs4 g4 HOB HSB HGB hu hz3
    have hin := HO4.out.in_ HN.out hkn
    obtain ⟨⟨⟨x0, x1, xs⟩, xo, xc⟩, hxe⟩ : ∃ x, mcOf cs k = x := ⟨_, rfl⟩
    rw [hxe] at hin
    obtain ⟨c0, c1, -⟩ := hin
    obtain ⟨f0, r5, b5⟩ := HO4.out.fieldI ne_md (j := 1) (u := .int .i64 u) (y := ⟨⟨x0, u, xs⟩, xo, xc⟩) HN.out hkn (by omega) (by rw [hxe]; rfl) (by rw [hxe]; rfl) (by rw [hxe])
    have hnm : xs.length ≤ 5 := by have h := HAny.out.2 _ (mcOf_mem hkt); rw [hxe] at h; exact h
    have HR5 := Lib.hid r5
    have HS5 := Lib.hid (HS4.out.belowB b5 hp); have HG5 := Lib.hid (grown_step HG4.out b5 (Nat.le_refl _))
    have HA5 := Lib.hid (anyMc_set (k := k) (y := ⟨⟨x0, u, xs⟩, xo, xc⟩) HAny.out hnm)
    clear r5 b5 hxe HS4 HG4
    simp only [Nat.add_zero] at c0 f0 HR5 HS5 HG5
    go_wp2_with fail
    go_ret
    exact ⟨_, _, _, _, rfl, HR5.out.1, HR5.out.2, HA5.out, HS5.out, HG5.out, hcap, hcm⟩
  have t1 : (y == 1) = false := by simp [h1]
  clear h1
  by_cases h2 : y = 2
  · subst h2
    obtain ⟨⟨⟨x0, x1, xs⟩, xo, xc⟩, hxe⟩ : ∃ x, mcOf cs k = x := ⟨_, rfl⟩
    have hnm : xs.length ≤ 4 := by have h := HDR.out _ (mcOf_mem hkt); rw [hxe] at h; exact h
    have HXE := Lib.hid hxe; clear hxe
    have hbd : Below w3.heap.size w3 w3.drew := Below.drew (Below.refl _ _)
    have HO4 := Lib.hid (HO3.out.below hbd); have HS4 := Lib.hid (HS3.out.below hbd); have HG4 := Lib.hid (grown_trans HG3.out (grown_of_below hbd))
    clear hbd HO3 HS3 HG3
    go_upto_region 9 with fail
    refine wp_region_held_drew (S := fun w' => True) (by kernel_rfl) (trivial) (fun hHeld => ?_)
    generalize w3.drew = wd at HO4 HS4 HG4 ⊢
    refine tk (i := 0) (v := ?_) rfl (Or.inl ⟨by rfl, ?_⟩) (by assumption) ?_
    rotate_left
    · (intro w hSw; (try dsimp only at hSw); go_simp; (try with_reducible rfl))
    try simp only [pa, pb, pc, Act.put, pe, pf, pg]
    refine tk (i := 1) (v := ?_) rfl (Or.inl ⟨by rfl, ?_⟩) (by assumption) ?_
    rotate_left
    · (intro w hSw; (try dsimp only at hSw); go_simp; (try with_reducible rfl))
    try simp only [pa, pb, pc, Act.put, pe, pf, pg]
    refine tk (i := 2) (v := ?_) rfl (Or.inl ⟨by rfl, ?_⟩) (by assumption) ?_
    rotate_left
    · (intro w hSw; (try dsimp only at hSw); go_simp; (try with_reducible rfl))
    try simp only [pa, pb, pc, Act.put, pe, pf, pg]
    refine tk (i := 3) (v := ?_) rfl (Or.inl ⟨by rfl, ?_⟩) (by assumption) ?_
    rotate_left
    · (intro w hSw; (try dsimp only at hSw); go_simp; (try with_reducible rfl))
    try simp only [pa, pb, pc, Act.put, pe, pf, pg]
    refine tk (i := 4) (v := ?_) rfl (Or.inl ⟨by rfl, ?_⟩) (by assumption) ?_
    rotate_left
    · (intro w hSw; (try dsimp only at hSw); go_simp; (try with_reducible rfl))
    try simp only [pa, pb, pc, Act.put, pe, pf, pg]
    refine tk (i := 5) (v := ?_) rfl (Or.inl ⟨by rfl, ?_⟩) (by assumption) ?_
    rotate_left
    · (intro w hSw; (try dsimp only at hSw); go_simp; (try with_reducible rfl))
    try simp only [pa, pb, pc, Act.put, pe, pf, pg]
    refine tk (i := 7) (v := ?_) rfl (Or.inl ⟨by rfl, ?_⟩) (by assumption) ?_
    rotate_left
    · (intro w hSw; (try dsimp only at hSw); go_simp; (try with_reducible rfl))
    try simp only [pa, pb, pc, Act.put, pe, pf, pg]
    refine tk (i := 8) (v := ?_) rfl (Or.inl ⟨by rfl, ?_⟩) (by assumption) ?_
    rotate_left
    · (intro w hSw; (try dsimp only at hSw); go_simp; (try with_reducible rfl))
    try simp only [pa, pb, pc, Act.put, pe, pf, pg]
    refine tk (i := 9) (v := ?_) rfl (Or.inl ⟨by rfl, ?_⟩) (by assumption) ?_
    rotate_left
    · (intro w hSw; (try dsimp only at hSw); go_simp; (try with_reducible rfl))
    try simp only [pa, pb, pc, Act.put, pe, pf, pg]
    refine tk (i := 11) (v := ?_) rfl (Or.inl ⟨by rfl, ?_⟩) (by assumption) ?_
    rotate_left
    · (intro w hSw; (try dsimp only at hSw); go_simp; (try with_reducible rfl))
    try simp only [pa, pb, pc, Act.put, pe, pf, pg]
    refine wpAnyH_ready (rs := [6, 10, 12]) (by kernel_rfl) (by simp) (AllReadyH.cons rfl (fun K hK => ?_) (AllReadyH.cons rfl (fun K hK => ?_) (AllReadyH.cons rfl (fun K hK => ?_) (AllReadyH.nil))))
    · skip
      have hin := HO4.out.in_ HN.out hkn
      rw [HXE.out] at hin
      obtain ⟨-, -, c2⟩ := hin
      go_simp
      refine hK.out _ _ ?_ (fun hHeld => ?_)
      · exact trivial
      clear hK K
      try simp only [pa, pb, pc, Act.put, pe, pf, pg]
      clear c2
      refine wpAnyH_ready (rs := [10, 12]) (by kernel_rfl) (by simp) (AllReadyH.cons rfl (fun K hK => ?_) (AllReadyH.cons rfl (fun K hK => ?_) (AllReadyH.nil)))
      · skip
        go_simp
        have hbl : Below wd.heap.size wd (wd.alloc (.cells #[.int .i64 (k : Int), .int .i64 (n : Int), .int .i64 0] 2)) := (Below.refl _ _).alloc (Nat.le_refl _) _
        have HO5 := Lib.hid (HO4.out.below hbl); have HS5 := Lib.hid (HS4.out.below hbl); have HG5 := Lib.hid (grown_trans HG4.out (grown_of_below hbl))
        have HL5 := Lib.hid (show LitAt 2 (wd.alloc (.cells #[.int .i64 (k : Int), .int .i64 (n : Int), .int .i64 0] 2)) wd.heap.size #[.int .i64 (k : Int), .int .i64 (n : Int), .int .i64 0] from LitAt.new _)
        have hpb : p < wd.heap.size := HS4.out.lt
        clear hbl
        generalize hwb : wd.heap.size = tb at HL5 hpb ⊢
        generalize wd.alloc (.cells #[.int .i64 (k : Int), .int .i64 (n : Int), .int .i64 0] 2) = wa5 at HO5 HS5 HG5 HL5 ⊢
        clear hwb
        refine hK.out _ _ ?_ (fun hHeld => ?_)
        · exact trivial
        clear hK K
        try simp only [pa, pb, pc, Act.put, pe, pf, pg]
        refine wpAnyH_ready (rs := [12]) (by kernel_rfl) (by simp) (AllReadyH.cons rfl (fun K hK => ?_) (AllReadyH.nil))
        go_simp
        refine (next_any _ _ _ HS5.out (by omega)).mono ?_
        rintro e wc ⟨z, rfl, hz0, hz1, -, hs, gc⟩
        have hz2 : z < 3 := hz1 (by omega)
        obtain ⟨z, rfl⟩ := Int.eq_ofNat_of_zero_le hz0
        have hz3 : z < 3 := by omega
        have HO6 := Lib.hid (HO5.out.old gc hp); have HS6 := Lib.hid hs; have HG6 := Lib.hid (grown_trans HG5.out gc)
        have HL6 := Lib.hid (HL5.out.src gc hpb)
        clear hz1 hs gc
        go_wp2_with fail
        refine hK.out _ _ ?_ (fun hHeld => ?_)
        · exact trivial
        clear hK K
        try simp only [pa, pb, pc, Act.put, pe, pf, pg]
        refine tk (i := 13) (v := ?_) rfl (Or.inl ⟨by rfl, ?_⟩) (by assumption) ?_
        rotate_left
        · (intro w hSw; (try dsimp only at hSw); go_simp; (try with_reducible rfl))
        try simp only [pa, pb, pc, Act.put, pe, pf, pg]
        refine wpAnyH_ready (rs := [14]) (by kernel_rfl) (by simp) (AllReadyH.cons rfl (fun K hK => ?_) (AllReadyH.nil))
        obtain ⟨u, hu⟩ := three_ints (cs := #[.int .i64 (k : Int), .int .i64 (n : Int), .int .i64 0]) rfl hz3
        have hcell := (HL6.out.cell z).trans hu
        clear hu
        go_simp
        refine hK.out _ _ ?_ (fun hHeld => ?_)
        · exact trivial
        clear hK K
        try simp only [pa, pb, pc, Act.put, pe, pf, pg]
        clear hcell
        refine wpAnyH_ready (rs := [15]) (by kernel_rfl) (by simp) (AllReadyH.cons rfl (fun K hK => ?_) (AllReadyH.nil))
        go_simp
        have hbl : Below wc.heap.size wc (wc.alloc (.cells #[.int .i64 u] 2)) := (Below.refl _ _).alloc (Nat.le_refl _) _
        have HO7 := Lib.hid (HO6.out.below hbl); have HS7 := Lib.hid (HS6.out.below hbl); have HG7 := Lib.hid (grown_trans HG6.out (grown_of_below hbl))
        have HRU := Lib.hid (rd_one 2 u wc)
        clear hbl
        generalize wc.heap.size = ub at HRU ⊢
        generalize wc.alloc (.cells #[.int .i64 u] 2) = wu at HO7 HS7 HG7 HRU ⊢
        refine hK.out _ _ ?_ (fun hHeld => ?_)
        · exact trivial
        clear hK K
        try simp only [pa, pb, pc, Act.put, pe, pf, pg]
        refine wpAnyH_ready (rs := [16]) (by kernel_rfl) (by simp) (AllReadyH.cons rfl (fun K hK => ?_) (AllReadyH.nil))
        have hxn : Own 2 wu w.heap.size (.slice xo xs.length xc) xs := by
          have := HO7.out.nx _ (mcOf_mem hkt)
          rw [HXE.out] at this
          exact this
        refine app_op _ (.tmp 43) (.tmp 52) rfl w.heap.size Tryz.underlying53 info64 _ xs rfl hxn _ _ _ [u] rfl HRU.out (by omega) HG7.out.size ?_
        intro vn wn on gn
        obtain ⟨ns, hns⟩ : ∃ ns, ns = xs ++ [u] := ⟨_, rfl⟩
        have hnl : ns.length ≤ 5 := by rw [hns, List.length_append, List.length_singleton]; omega
        rw [← hns] at on
        clear hns
        obtain ⟨na, nc, rfl, on, -⟩ := on.get
        obtain ⟨cN, fN, rN, lN, bN⟩ := HO7.out.fieldN ne_md HN.out hkn HXE.out HG7.out.size gn on
        have HSF := Lib.hid (HS7.out.belowB bN hp); have HGF := Lib.hid (grown_step HG7.out bN (Nat.le_refl _)); have HRF := Lib.hid rN; have HLF := Lib.hid lN
        have HAF := Lib.hid (anyMc_set (k := k) (y := ⟨⟨x0, x1, ns⟩, na, nc⟩) HAny.out hnl)
        clear on gn bN rN lN hxn
        refine hK.out _ _ ?_ (fun hHeld => ?_)
        · exact trivial
        clear hK K
        try simp only [pa, pb, pc, Act.put, pe, pf, pg]
        refine tk (i := 17) (v := ?_) rfl (Or.inl ⟨by rfl, ?_⟩) (by assumption) ?_
        rotate_left
        · (intro w hSw; (try dsimp only at hSw); go_simp; (try with_reducible rfl))
        try simp only [pa, pb, pc, Act.put, pe, pf, pg]
        refine tk (i := 18) (v := ?_) rfl (Or.inl ⟨by rfl, ?_⟩) (by assumption) ?_
        rotate_left
        · (intro w hSw; (try dsimp only at hSw); go_simp; (try with_reducible rfl))
        try simp only [pa, pb, pc, Act.put, pe, pf, pg]
        refine wpAnyH_ready (rs := [19]) (by kernel_rfl) (by simp) (AllReadyH.cons rfl (fun K hK => ?_) (AllReadyH.nil))
        go_simp
        refine hK.out _ _ ?_ (fun hHeld => ?_)
        · exact trivial
        clear hK K
        try simp only [pa, pb, pc, Act.put, pe, pf, pg]
        refine wpAnyH_done (by kernel_rfl) ?_ _
        go_wp2_with fail
        go_ret
        exact ⟨_, _, _, _, rfl, HRF.out, HLF.out, HAF.out, HSF.out, HGF.out, hcap, hcm⟩
      · skip
        go_simp
        refine (next_any _ _ _ HS4.out (by omega)).mono ?_
        rintro e wc ⟨z, rfl, hz0, hz1, -, hs, gc⟩
        have hz2 : z < 3 := hz1 (by omega)
        obtain ⟨z, rfl⟩ := Int.eq_ofNat_of_zero_le hz0
        have hz3 : z < 3 := by omega
        have HO5 := Lib.hid (HO4.out.old gc hp); have HS5 := Lib.hid hs; have HG5 := Lib.hid (grown_trans HG4.out gc)
        clear hz1 hs gc
        go_wp2_with fail
        refine hK.out _ _ ?_ (fun hHeld => ?_)
        · exact trivial
        clear hK K
        try simp only [pa, pb, pc, Act.put, pe, pf, pg]
        refine wpAnyH_ready (rs := [10]) (by kernel_rfl) (by simp) (AllReadyH.cons rfl (fun K hK => ?_) (AllReadyH.nil))
        go_simp
        have hbl : Below wc.heap.size wc (wc.alloc (.cells #[.int .i64 (k : Int), .int .i64 (n : Int), .int .i64 0] 2)) := (Below.refl _ _).alloc (Nat.le_refl _) _
        have HO6 := Lib.hid (HO5.out.below hbl); have HS6 := Lib.hid (HS5.out.below hbl); have HG6 := Lib.hid (grown_trans HG5.out (grown_of_below hbl))
        have HL6 := Lib.hid (show LitAt 2 (wc.alloc (.cells #[.int .i64 (k : Int), .int .i64 (n : Int), .int .i64 0] 2)) wc.heap.size #[.int .i64 (k : Int), .int .i64 (n : Int), .int .i64 0] from LitAt.new _)
        have hpb : p < wc.heap.size := HS5.out.lt
        clear hbl
        generalize hwb : wc.heap.size = tb at HL6 hpb ⊢
        generalize wc.alloc (.cells #[.int .i64 (k : Int), .int .i64 (n : Int), .int .i64 0] 2) = wa6 at HO6 HS6 HG6 HL6 ⊢
        clear hwb
        refine hK.out _ _ ?_ (fun hHeld => ?_)
        · exact trivial
        clear hK K
        try simp only [pa, pb, pc, Act.put, pe, pf, pg]
        refine tk (i := 13) (v := ?_) rfl (Or.inl ⟨by rfl, ?_⟩) (by assumption) ?_
        rotate_left
        · (intro w hSw; (try dsimp only at hSw); go_simp; (try with_reducible rfl))
        try simp only [pa, pb, pc, Act.put, pe, pf, pg]
        refine wpAnyH_ready (rs := [14]) (by kernel_rfl) (by simp) (AllReadyH.cons rfl (fun K hK => ?_) (AllReadyH.nil))
        obtain ⟨u, hu⟩ := three_ints (cs := #[.int .i64 (k : Int), .int .i64 (n : Int), .int .i64 0]) rfl hz3
        have hcell := (HL6.out.cell z).trans hu
        clear hu
        go_simp
        refine hK.out _ _ ?_ (fun hHeld => ?_)
        · exact trivial
        clear hK K
        try simp only [pa, pb, pc, Act.put, pe, pf, pg]
        clear hcell
        refine wpAnyH_ready (rs := [15]) (by kernel_rfl) (by simp) (AllReadyH.cons rfl (fun K hK => ?_) (AllReadyH.nil))
        go_simp
        have hbl : Below wa6.heap.size wa6 (wa6.alloc (.cells #[.int .i64 u] 2)) := (Below.refl _ _).alloc (Nat.le_refl _) _
        have HO7 := Lib.hid (HO6.out.below hbl); have HS7 := Lib.hid (HS6.out.below hbl); have HG7 := Lib.hid (grown_trans HG6.out (grown_of_below hbl))
        have HRU := Lib.hid (rd_one 2 u wa6)
        clear hbl
        generalize wa6.heap.size = ub at HRU ⊢
        generalize wa6.alloc (.cells #[.int .i64 u] 2) = wu at HO7 HS7 HG7 HRU ⊢
        refine hK.out _ _ ?_ (fun hHeld => ?_)
        · exact trivial
        clear hK K
        try simp only [pa, pb, pc, Act.put, pe, pf, pg]
        refine wpAnyH_ready (rs := [16]) (by kernel_rfl) (by simp) (AllReadyH.cons rfl (fun K hK => ?_) (AllReadyH.nil))
        have hxn : Own 2 wu w.heap.size (.slice xo xs.length xc) xs := by
          have := HO7.out.nx _ (mcOf_mem hkt)
          rw [HXE.out] at this
          exact this
        refine app_op _ (.tmp 43) (.tmp 52) rfl w.heap.size Tryz.underlying53 info64 _ xs rfl hxn _ _ _ [u] rfl HRU.out (by omega) HG7.out.size ?_
        intro vn wn on gn
        obtain ⟨ns, hns⟩ : ∃ ns, ns = xs ++ [u] := ⟨_, rfl⟩
        have hnl : ns.length ≤ 5 := by rw [hns, List.length_append, List.length_singleton]; omega
        rw [← hns] at on
        clear hns
        obtain ⟨na, nc, rfl, on, -⟩ := on.get
        obtain ⟨cN, fN, rN, lN, bN⟩ := HO7.out.fieldN ne_md HN.out hkn HXE.out HG7.out.size gn on
        have HSF := Lib.hid (HS7.out.belowB bN hp); have HGF := Lib.hid (grown_step HG7.out bN (Nat.le_refl _)); have HRF := Lib.hid rN; have HLF := Lib.hid lN
        have HAF := Lib.hid (anyMc_set (k := k) (y := ⟨⟨x0, x1, ns⟩, na, nc⟩) HAny.out hnl)
        clear on gn bN rN lN hxn
        refine hK.out _ _ ?_ (fun hHeld => ?_)
        · exact trivial
        clear hK K
        try simp only [pa, pb, pc, Act.put, pe, pf, pg]
        refine tk (i := 17) (v := ?_) rfl (Or.inl ⟨by rfl, ?_⟩) (by assumption) ?_
        rotate_left
        · (intro w hSw; (try dsimp only at hSw); go_simp; (try with_reducible rfl))
        try simp only [pa, pb, pc, Act.put, pe, pf, pg]
        refine tk (i := 18) (v := ?_) rfl (Or.inl ⟨by rfl, ?_⟩) (by assumption) ?_
        rotate_left
        · (intro w hSw; (try dsimp only at hSw); go_simp; (try with_reducible rfl))
        try simp only [pa, pb, pc, Act.put, pe, pf, pg]
        refine wpAnyH_ready (rs := [19]) (by kernel_rfl) (by simp) (AllReadyH.cons rfl (fun K hK => ?_) (AllReadyH.nil))
        go_simp
        refine hK.out _ _ ?_ (fun hHeld => ?_)
        · exact trivial
        clear hK K
        try simp only [pa, pb, pc, Act.put, pe, pf, pg]
        refine wpAnyH_done (by kernel_rfl) ?_ _
        go_wp2_with fail
        go_ret
        exact ⟨_, _, _, _, rfl, HRF.out, HLF.out, HAF.out, HSF.out, HGF.out, hcap, hcm⟩
    · skip
      go_simp
      have hbl : Below wd.heap.size wd (wd.alloc (.cells #[.int .i64 (k : Int), .int .i64 (n : Int), .int .i64 0] 2)) := (Below.refl _ _).alloc (Nat.le_refl _) _
      have HO5 := Lib.hid (HO4.out.below hbl); have HS5 := Lib.hid (HS4.out.below hbl); have HG5 := Lib.hid (grown_trans HG4.out (grown_of_below hbl))
      have HL5 := Lib.hid (show LitAt 2 (wd.alloc (.cells #[.int .i64 (k : Int), .int .i64 (n : Int), .int .i64 0] 2)) wd.heap.size #[.int .i64 (k : Int), .int .i64 (n : Int), .int .i64 0] from LitAt.new _)
      have hpb : p < wd.heap.size := HS4.out.lt
      clear hbl
      generalize hwb : wd.heap.size = tb at HL5 hpb ⊢
      generalize wd.alloc (.cells #[.int .i64 (k : Int), .int .i64 (n : Int), .int .i64 0] 2) = wa5 at HO5 HS5 HG5 HL5 ⊢
      clear hwb
      refine hK.out _ _ ?_ (fun hHeld => ?_)
      · exact trivial
      clear hK K
      try simp only [pa, pb, pc, Act.put, pe, pf, pg]
      refine wpAnyH_ready (rs := [6, 12]) (by kernel_rfl) (by simp) (AllReadyH.cons rfl (fun K hK => ?_) (AllReadyH.cons rfl (fun K hK => ?_) (AllReadyH.nil)))
      · skip
        have hin := HO5.out.in_ HN.out hkn
        rw [HXE.out] at hin
        obtain ⟨-, -, c2⟩ := hin
        go_simp
        refine hK.out _ _ ?_ (fun hHeld => ?_)
        · exact trivial
        clear hK K
        try simp only [pa, pb, pc, Act.put, pe, pf, pg]
        clear c2
        refine wpAnyH_ready (rs := [12]) (by kernel_rfl) (by simp) (AllReadyH.cons rfl (fun K hK => ?_) (AllReadyH.nil))
        go_simp
        refine (next_any _ _ _ HS5.out (by omega)).mono ?_
        rintro e wc ⟨z, rfl, hz0, hz1, -, hs, gc⟩
        have hz2 : z < 3 := hz1 (by omega)
        obtain ⟨z, rfl⟩ := Int.eq_ofNat_of_zero_le hz0
        have hz3 : z < 3 := by omega
        have HO6 := Lib.hid (HO5.out.old gc hp); have HS6 := Lib.hid hs; have HG6 := Lib.hid (grown_trans HG5.out gc)
        have HL6 := Lib.hid (HL5.out.src gc hpb)
        clear hz1 hs gc
        go_wp2_with fail
        refine hK.out _ _ ?_ (fun hHeld => ?_)
        · exact trivial
        clear hK K
        try simp only [pa, pb, pc, Act.put, pe, pf, pg]
        refine tk (i := 13) (v := ?_) rfl (Or.inl ⟨by rfl, ?_⟩) (by assumption) ?_
        rotate_left
        · (intro w hSw; (try dsimp only at hSw); go_simp; (try with_reducible rfl))
        try simp only [pa, pb, pc, Act.put, pe, pf, pg]
        refine wpAnyH_ready (rs := [14]) (by kernel_rfl) (by simp) (AllReadyH.cons rfl (fun K hK => ?_) (AllReadyH.nil))
        obtain ⟨u, hu⟩ := three_ints (cs := #[.int .i64 (k : Int), .int .i64 (n : Int), .int .i64 0]) rfl hz3
        have hcell := (HL6.out.cell z).trans hu
        clear hu
        go_simp
        refine hK.out _ _ ?_ (fun hHeld => ?_)
        · exact trivial
        clear hK K
        try simp only [pa, pb, pc, Act.put, pe, pf, pg]
        clear hcell
        refine wpAnyH_ready (rs := [15]) (by kernel_rfl) (by simp) (AllReadyH.cons rfl (fun K hK => ?_) (AllReadyH.nil))
        go_simp
        have hbl : Below wc.heap.size wc (wc.alloc (.cells #[.int .i64 u] 2)) := (Below.refl _ _).alloc (Nat.le_refl _) _
        have HO7 := Lib.hid (HO6.out.below hbl); have HS7 := Lib.hid (HS6.out.below hbl); have HG7 := Lib.hid (grown_trans HG6.out (grown_of_below hbl))
        have HRU := Lib.hid (rd_one 2 u wc)
        clear hbl
        generalize wc.heap.size = ub at HRU ⊢
        generalize wc.alloc (.cells #[.int .i64 u] 2) = wu at HO7 HS7 HG7 HRU ⊢
        refine hK.out _ _ ?_ (fun hHeld => ?_)
        · exact trivial
        clear hK K
        try simp only [pa, pb, pc, Act.put, pe, pf, pg]
        refine wpAnyH_ready (rs := [16]) (by kernel_rfl) (by simp) (AllReadyH.cons rfl (fun K hK => ?_) (AllReadyH.nil))
        have hxn : Own 2 wu w.heap.size (.slice xo xs.length xc) xs := by
          have := HO7.out.nx _ (mcOf_mem hkt)
          rw [HXE.out] at this
          exact this
        refine app_op _ (.tmp 43) (.tmp 52) rfl w.heap.size Tryz.underlying53 info64 _ xs rfl hxn _ _ _ [u] rfl HRU.out (by omega) HG7.out.size ?_
        intro vn wn on gn
        obtain ⟨ns, hns⟩ : ∃ ns, ns = xs ++ [u] := ⟨_, rfl⟩
        have hnl : ns.length ≤ 5 := by rw [hns, List.length_append, List.length_singleton]; omega
        rw [← hns] at on
        clear hns
        obtain ⟨na, nc, rfl, on, -⟩ := on.get
        obtain ⟨cN, fN, rN, lN, bN⟩ := HO7.out.fieldN ne_md HN.out hkn HXE.out HG7.out.size gn on
        have HSF := Lib.hid (HS7.out.belowB bN hp); have HGF := Lib.hid (grown_step HG7.out bN (Nat.le_refl _)); have HRF := Lib.hid rN; have HLF := Lib.hid lN
        have HAF := Lib.hid (anyMc_set (k := k) (y := ⟨⟨x0, x1, ns⟩, na, nc⟩) HAny.out hnl)
        clear on gn bN rN lN hxn
        refine hK.out _ _ ?_ (fun hHeld => ?_)
        · exact trivial
        clear hK K
        try simp only [pa, pb, pc, Act.put, pe, pf, pg]
        refine tk (i := 17) (v := ?_) rfl (Or.inl ⟨by rfl, ?_⟩) (by assumption) ?_
        rotate_left
        · (intro w hSw; (try dsimp only at hSw); go_simp; (try with_reducible rfl))
        try simp only [pa, pb, pc, Act.put, pe, pf, pg]
        refine tk (i := 18) (v := ?_) rfl (Or.inl ⟨by rfl, ?_⟩) (by assumption) ?_
        rotate_left
        · (intro w hSw; (try dsimp only at hSw); go_simp; (try with_reducible rfl))
        try simp only [pa, pb, pc, Act.put, pe, pf, pg]
        refine wpAnyH_ready (rs := [19]) (by kernel_rfl) (by simp) (AllReadyH.cons rfl (fun K hK => ?_) (AllReadyH.nil))
        go_simp
        refine hK.out _ _ ?_ (fun hHeld => ?_)
        · exact trivial
        clear hK K
        try simp only [pa, pb, pc, Act.put, pe, pf, pg]
        refine wpAnyH_done (by kernel_rfl) ?_ _
        go_wp2_with fail
        go_ret
        exact ⟨_, _, _, _, rfl, HRF.out, HLF.out, HAF.out, HSF.out, HGF.out, hcap, hcm⟩
      · skip
        go_simp
        refine (next_any _ _ _ HS5.out (by omega)).mono ?_
        rintro e wc ⟨z, rfl, hz0, hz1, -, hs, gc⟩
        have hz2 : z < 3 := hz1 (by omega)
        obtain ⟨z, rfl⟩ := Int.eq_ofNat_of_zero_le hz0
        have hz3 : z < 3 := by omega
        have HO6 := Lib.hid (HO5.out.old gc hp); have HS6 := Lib.hid hs; have HG6 := Lib.hid (grown_trans HG5.out gc)
        have HL6 := Lib.hid (HL5.out.src gc hpb)
        clear hz1 hs gc
        go_wp2_with fail
        refine hK.out _ _ ?_ (fun hHeld => ?_)
        · exact trivial
        clear hK K
        try simp only [pa, pb, pc, Act.put, pe, pf, pg]
        refine tk (i := 13) (v := ?_) rfl (Or.inl ⟨by rfl, ?_⟩) (by assumption) ?_
        rotate_left
        · (intro w hSw; (try dsimp only at hSw); go_simp; (try with_reducible rfl))
        try simp only [pa, pb, pc, Act.put, pe, pf, pg]
        refine wpAnyH_ready (rs := [6, 14]) (by kernel_rfl) (by simp) (AllReadyH.cons rfl (fun K hK => ?_) (AllReadyH.cons rfl (fun K hK => ?_) (AllReadyH.nil)))
        · skip
          have hin := HO6.out.in_ HN.out hkn
          rw [HXE.out] at hin
          obtain ⟨-, -, c2⟩ := hin
          go_simp
          refine hK.out _ _ ?_ (fun hHeld => ?_)
          · exact trivial
          clear hK K
          try simp only [pa, pb, pc, Act.put, pe, pf, pg]
          clear c2
          refine wpAnyH_ready (rs := [14]) (by kernel_rfl) (by simp) (AllReadyH.cons rfl (fun K hK => ?_) (AllReadyH.nil))
          obtain ⟨u, hu⟩ := three_ints (cs := #[.int .i64 (k : Int), .int .i64 (n : Int), .int .i64 0]) rfl hz3
          have hcell := (HL6.out.cell z).trans hu
          clear hu
          go_simp
          refine hK.out _ _ ?_ (fun hHeld => ?_)
          · exact trivial
          clear hK K
          try simp only [pa, pb, pc, Act.put, pe, pf, pg]
          clear hcell
          refine wpAnyH_ready (rs := [15]) (by kernel_rfl) (by simp) (AllReadyH.cons rfl (fun K hK => ?_) (AllReadyH.nil))
          go_simp
          have hbl : Below wc.heap.size wc (wc.alloc (.cells #[.int .i64 u] 2)) := (Below.refl _ _).alloc (Nat.le_refl _) _
          have HO7 := Lib.hid (HO6.out.below hbl); have HS7 := Lib.hid (HS6.out.below hbl); have HG7 := Lib.hid (grown_trans HG6.out (grown_of_below hbl))
          have HRU := Lib.hid (rd_one 2 u wc)
          clear hbl
          generalize wc.heap.size = ub at HRU ⊢
          generalize wc.alloc (.cells #[.int .i64 u] 2) = wu at HO7 HS7 HG7 HRU ⊢
          refine hK.out _ _ ?_ (fun hHeld => ?_)
          · exact trivial
          clear hK K
          try simp only [pa, pb, pc, Act.put, pe, pf, pg]
          refine wpAnyH_ready (rs := [16]) (by kernel_rfl) (by simp) (AllReadyH.cons rfl (fun K hK => ?_) (AllReadyH.nil))
          have hxn : Own 2 wu w.heap.size (.slice xo xs.length xc) xs := by
            have := HO7.out.nx _ (mcOf_mem hkt)
            rw [HXE.out] at this
            exact this
          refine app_op _ (.tmp 43) (.tmp 52) rfl w.heap.size Tryz.underlying53 info64 _ xs rfl hxn _ _ _ [u] rfl HRU.out (by omega) HG7.out.size ?_
          intro vn wn on gn
          obtain ⟨ns, hns⟩ : ∃ ns, ns = xs ++ [u] := ⟨_, rfl⟩
          have hnl : ns.length ≤ 5 := by rw [hns, List.length_append, List.length_singleton]; omega
          rw [← hns] at on
          clear hns
          obtain ⟨na, nc, rfl, on, -⟩ := on.get
          obtain ⟨cN, fN, rN, lN, bN⟩ := HO7.out.fieldN ne_md HN.out hkn HXE.out HG7.out.size gn on
          have HSF := Lib.hid (HS7.out.belowB bN hp); have HGF := Lib.hid (grown_step HG7.out bN (Nat.le_refl _)); have HRF := Lib.hid rN; have HLF := Lib.hid lN
          have HAF := Lib.hid (anyMc_set (k := k) (y := ⟨⟨x0, x1, ns⟩, na, nc⟩) HAny.out hnl)
          clear on gn bN rN lN hxn
          refine hK.out _ _ ?_ (fun hHeld => ?_)
          · exact trivial
          clear hK K
          try simp only [pa, pb, pc, Act.put, pe, pf, pg]
          refine tk (i := 17) (v := ?_) rfl (Or.inl ⟨by rfl, ?_⟩) (by assumption) ?_
          rotate_left
          · (intro w hSw; (try dsimp only at hSw); go_simp; (try with_reducible rfl))
          try simp only [pa, pb, pc, Act.put, pe, pf, pg]
          refine tk (i := 18) (v := ?_) rfl (Or.inl ⟨by rfl, ?_⟩) (by assumption) ?_
          rotate_left
          · (intro w hSw; (try dsimp only at hSw); go_simp; (try with_reducible rfl))
          try simp only [pa, pb, pc, Act.put, pe, pf, pg]
          refine wpAnyH_ready (rs := [19]) (by kernel_rfl) (by simp) (AllReadyH.cons rfl (fun K hK => ?_) (AllReadyH.nil))
          go_simp
          refine hK.out _ _ ?_ (fun hHeld => ?_)
          · exact trivial
          clear hK K
          try simp only [pa, pb, pc, Act.put, pe, pf, pg]
          refine wpAnyH_done (by kernel_rfl) ?_ _
          go_wp2_with fail
          go_ret
          exact ⟨_, _, _, _, rfl, HRF.out, HLF.out, HAF.out, HSF.out, HGF.out, hcap, hcm⟩
        · skip
          obtain ⟨u, hu⟩ := three_ints (cs := #[.int .i64 (k : Int), .int .i64 (n : Int), .int .i64 0]) rfl hz3
          have hcell := (HL6.out.cell z).trans hu
          clear hu
          go_simp
          refine hK.out _ _ ?_ (fun hHeld => ?_)
          · exact trivial
          clear hK K
          try simp only [pa, pb, pc, Act.put, pe, pf, pg]
          clear hcell
          refine wpAnyH_ready (rs := [6, 15]) (by kernel_rfl) (by simp) (AllReadyH.cons rfl (fun K hK => ?_) (AllReadyH.cons rfl (fun K hK => ?_) (AllReadyH.nil)))
          · skip
            have hin := HO6.out.in_ HN.out hkn
            rw [HXE.out] at hin
            obtain ⟨-, -, c2⟩ := hin
            go_simp
            refine hK.out _ _ ?_ (fun hHeld => ?_)
            · exact trivial
            clear hK K
            try simp only [pa, pb, pc, Act.put, pe, pf, pg]
            clear c2
            refine wpAnyH_ready (rs := [15]) (by kernel_rfl) (by simp) (AllReadyH.cons rfl (fun K hK => ?_) (AllReadyH.nil))
            go_simp
            have hbl : Below wc.heap.size wc (wc.alloc (.cells #[.int .i64 u] 2)) := (Below.refl _ _).alloc (Nat.le_refl _) _
            have HO7 := Lib.hid (HO6.out.below hbl); have HS7 := Lib.hid (HS6.out.below hbl); have HG7 := Lib.hid (grown_trans HG6.out (grown_of_below hbl))
            have HRU := Lib.hid (rd_one 2 u wc)
            clear hbl
            generalize wc.heap.size = ub at HRU ⊢
            generalize wc.alloc (.cells #[.int .i64 u] 2) = wu at HO7 HS7 HG7 HRU ⊢
            refine hK.out _ _ ?_ (fun hHeld => ?_)
            · exact trivial
            clear hK K
            try simp only [pa, pb, pc, Act.put, pe, pf, pg]
            refine wpAnyH_ready (rs := [16]) (by kernel_rfl) (by simp) (AllReadyH.cons rfl (fun K hK => ?_) (AllReadyH.nil))
            have hxn : Own 2 wu w.heap.size (.slice xo xs.length xc) xs := by
              have := HO7.out.nx _ (mcOf_mem hkt)
              rw [HXE.out] at this
              exact this
            refine app_op _ (.tmp 43) (.tmp 52) rfl w.heap.size Tryz.underlying53 info64 _ xs rfl hxn _ _ _ [u] rfl HRU.out (by omega) HG7.out.size ?_
            intro vn wn on gn
            obtain ⟨ns, hns⟩ : ∃ ns, ns = xs ++ [u] := ⟨_, rfl⟩
            have hnl : ns.length ≤ 5 := by rw [hns, List.length_append, List.length_singleton]; omega
            rw [← hns] at on
            clear hns
            obtain ⟨na, nc, rfl, on, -⟩ := on.get
            obtain ⟨cN, fN, rN, lN, bN⟩ := HO7.out.fieldN ne_md HN.out hkn HXE.out HG7.out.size gn on
            have HSF := Lib.hid (HS7.out.belowB bN hp); have HGF := Lib.hid (grown_step HG7.out bN (Nat.le_refl _)); have HRF := Lib.hid rN; have HLF := Lib.hid lN
            have HAF := Lib.hid (anyMc_set (k := k) (y := ⟨⟨x0, x1, ns⟩, na, nc⟩) HAny.out hnl)
            clear on gn bN rN lN hxn
            refine hK.out _ _ ?_ (fun hHeld => ?_)
            · exact trivial
            clear hK K
            try simp only [pa, pb, pc, Act.put, pe, pf, pg]
            refine tk (i := 17) (v := ?_) rfl (Or.inl ⟨by rfl, ?_⟩) (by assumption) ?_
            rotate_left
            · (intro w hSw; (try dsimp only at hSw); go_simp; (try with_reducible rfl))
            try simp only [pa, pb, pc, Act.put, pe, pf, pg]
            refine tk (i := 18) (v := ?_) rfl (Or.inl ⟨by rfl, ?_⟩) (by assumption) ?_
            rotate_left
            · (intro w hSw; (try dsimp only at hSw); go_simp; (try with_reducible rfl))
            try simp only [pa, pb, pc, Act.put, pe, pf, pg]
            refine wpAnyH_ready (rs := [19]) (by kernel_rfl) (by simp) (AllReadyH.cons rfl (fun K hK => ?_) (AllReadyH.nil))
            go_simp
            refine hK.out _ _ ?_ (fun hHeld => ?_)
            · exact trivial
            clear hK K
            try simp only [pa, pb, pc, Act.put, pe, pf, pg]
            refine wpAnyH_done (by kernel_rfl) ?_ _
            go_wp2_with fail
            go_ret
            exact ⟨_, _, _, _, rfl, HRF.out, HLF.out, HAF.out, HSF.out, HGF.out, hcap, hcm⟩
          · skip
            go_simp
            have hbl : Below wc.heap.size wc (wc.alloc (.cells #[.int .i64 u] 2)) := (Below.refl _ _).alloc (Nat.le_refl _) _
            have HO7 := Lib.hid (HO6.out.below hbl); have HS7 := Lib.hid (HS6.out.below hbl); have HG7 := Lib.hid (grown_trans HG6.out (grown_of_below hbl))
            have HRU := Lib.hid (rd_one 2 u wc)
            clear hbl
            generalize wc.heap.size = ub at HRU ⊢
            generalize wc.alloc (.cells #[.int .i64 u] 2) = wu at HO7 HS7 HG7 HRU ⊢
            refine hK.out _ _ ?_ (fun hHeld => ?_)
            · exact trivial
            clear hK K
            try simp only [pa, pb, pc, Act.put, pe, pf, pg]
            refine wpAnyH_ready (rs := [6]) (by kernel_rfl) (by simp) (AllReadyH.cons rfl (fun K hK => ?_) (AllReadyH.nil))
            have hin := HO7.out.in_ HN.out hkn
            rw [HXE.out] at hin
            obtain ⟨-, -, c2⟩ := hin
            go_simp
            refine hK.out _ _ ?_ (fun hHeld => ?_)
            · exact trivial
            clear hK K
            try simp only [pa, pb, pc, Act.put, pe, pf, pg]
            clear c2
            refine wpAnyH_ready (rs := [16]) (by kernel_rfl) (by simp) (AllReadyH.cons rfl (fun K hK => ?_) (AllReadyH.nil))
            have hxn : Own 2 wu w.heap.size (.slice xo xs.length xc) xs := by
              have := HO7.out.nx _ (mcOf_mem hkt)
              rw [HXE.out] at this
              exact this
            refine app_op _ (.tmp 43) (.tmp 52) rfl w.heap.size Tryz.underlying53 info64 _ xs rfl hxn _ _ _ [u] rfl HRU.out (by omega) HG7.out.size ?_
            intro vn wn on gn
            obtain ⟨ns, hns⟩ : ∃ ns, ns = xs ++ [u] := ⟨_, rfl⟩
            have hnl : ns.length ≤ 5 := by rw [hns, List.length_append, List.length_singleton]; omega
            rw [← hns] at on
            clear hns
            obtain ⟨na, nc, rfl, on, -⟩ := on.get
            obtain ⟨cN, fN, rN, lN, bN⟩ := HO7.out.fieldN ne_md HN.out hkn HXE.out HG7.out.size gn on
            have HSF := Lib.hid (HS7.out.belowB bN hp); have HGF := Lib.hid (grown_step HG7.out bN (Nat.le_refl _)); have HRF := Lib.hid rN; have HLF := Lib.hid lN
            have HAF := Lib.hid (anyMc_set (k := k) (y := ⟨⟨x0, x1, ns⟩, na, nc⟩) HAny.out hnl)
            clear on gn bN rN lN hxn
            refine hK.out _ _ ?_ (fun hHeld => ?_)
            · exact trivial
            clear hK K
            try simp only [pa, pb, pc, Act.put, pe, pf, pg]
            refine tk (i := 17) (v := ?_) rfl (Or.inl ⟨by rfl, ?_⟩) (by assumption) ?_
            rotate_left
            · (intro w hSw; (try dsimp only at hSw); go_simp; (try with_reducible rfl))
            try simp only [pa, pb, pc, Act.put, pe, pf, pg]
            refine tk (i := 18) (v := ?_) rfl (Or.inl ⟨by rfl, ?_⟩) (by assumption) ?_
            rotate_left
            · (intro w hSw; (try dsimp only at hSw); go_simp; (try with_reducible rfl))
            try simp only [pa, pb, pc, Act.put, pe, pf, pg]
            refine wpAnyH_ready (rs := [19]) (by kernel_rfl) (by simp) (AllReadyH.cons rfl (fun K hK => ?_) (AllReadyH.nil))
            go_simp
            refine hK.out _ _ ?_ (fun hHeld => ?_)
            · exact trivial
            clear hK K
            try simp only [pa, pb, pc, Act.put, pe, pf, pg]
            refine wpAnyH_done (by kernel_rfl) ?_ _
            go_wp2_with fail
            go_ret
            exact ⟨_, _, _, _, rfl, HRF.out, HLF.out, HAF.out, HSF.out, HGF.out, hcap, hcm⟩
    · skip
      go_simp
      refine (next_any _ _ _ HS4.out (by omega)).mono ?_
      rintro e wc ⟨z, rfl, hz0, hz1, -, hs, gc⟩
      have hz2 : z < 3 := hz1 (by omega)
      obtain ⟨z, rfl⟩ := Int.eq_ofNat_of_zero_le hz0
      have hz3 : z < 3 := by omega
      have HO5 := Lib.hid (HO4.out.old gc hp); have HS5 := Lib.hid hs; have HG5 := Lib.hid (grown_trans HG4.out gc)
      clear hz1 hs gc
      go_wp2_with fail
      refine hK.out _ _ ?_ (fun hHeld => ?_)
      · exact trivial
      clear hK K
      try simp only [pa, pb, pc, Act.put, pe, pf, pg]
      refine wpAnyH_ready (rs := [6, 10]) (by kernel_rfl) (by simp) (AllReadyH.cons rfl (fun K hK => ?_) (AllReadyH.cons rfl (fun K hK => ?_) (AllReadyH.nil)))
      · skip
        have hin := HO5.out.in_ HN.out hkn
        rw [HXE.out] at hin
        obtain ⟨-, -, c2⟩ := hin
        go_simp
        refine hK.out _ _ ?_ (fun hHeld => ?_)
        · exact trivial
        clear hK K
        try simp only [pa, pb, pc, Act.put, pe, pf, pg]
        clear c2
        refine wpAnyH_ready (rs := [10]) (by kernel_rfl) (by simp) (AllReadyH.cons rfl (fun K hK => ?_) (AllReadyH.nil))
        go_simp
        have hbl : Below wc.heap.size wc (wc.alloc (.cells #[.int .i64 (k : Int), .int .i64 (n : Int), .int .i64 0] 2)) := (Below.refl _ _).alloc (Nat.le_refl _) _
        have HO6 := Lib.hid (HO5.out.below hbl); have HS6 := Lib.hid (HS5.out.below hbl); have HG6 := Lib.hid (grown_trans HG5.out (grown_of_below hbl))
        have HL6 := Lib.hid (show LitAt 2 (wc.alloc (.cells #[.int .i64 (k : Int), .int .i64 (n : Int), .int .i64 0] 2)) wc.heap.size #[.int .i64 (k : Int), .int .i64 (n : Int), .int .i64 0] from LitAt.new _)
        have hpb : p < wc.heap.size := HS5.out.lt
        clear hbl
        generalize hwb : wc.heap.size = tb at HL6 hpb ⊢
        generalize wc.alloc (.cells #[.int .i64 (k : Int), .int .i64 (n : Int), .int .i64 0] 2) = wa6 at HO6 HS6 HG6 HL6 ⊢
        clear hwb
        refine hK.out _ _ ?_ (fun hHeld => ?_)
        · exact trivial
        clear hK K
        try simp only [pa, pb, pc, Act.put, pe, pf, pg]
        refine tk (i := 13) (v := ?_) rfl (Or.inl ⟨by rfl, ?_⟩) (by assumption) ?_
        rotate_left
        · (intro w hSw; (try dsimp only at hSw); go_simp; (try with_reducible rfl))
        try simp only [pa, pb, pc, Act.put, pe, pf, pg]
        refine wpAnyH_ready (rs := [14]) (by kernel_rfl) (by simp) (AllReadyH.cons rfl (fun K hK => ?_) (AllReadyH.nil))
        obtain ⟨u, hu⟩ := three_ints (cs := #[.int .i64 (k : Int), .int .i64 (n : Int), .int .i64 0]) rfl hz3
        have hcell := (HL6.out.cell z).trans hu
        clear hu
        go_simp
        refine hK.out _ _ ?_ (fun hHeld => ?_)
        · exact trivial
        clear hK K
        try simp only [pa, pb, pc, Act.put, pe, pf, pg]
        clear hcell
        refine wpAnyH_ready (rs := [15]) (by kernel_rfl) (by simp) (AllReadyH.cons rfl (fun K hK => ?_) (AllReadyH.nil))
        go_simp
        have hbl : Below wa6.heap.size wa6 (wa6.alloc (.cells #[.int .i64 u] 2)) := (Below.refl _ _).alloc (Nat.le_refl _) _
        have HO7 := Lib.hid (HO6.out.below hbl); have HS7 := Lib.hid (HS6.out.below hbl); have HG7 := Lib.hid (grown_trans HG6.out (grown_of_below hbl))
        have HRU := Lib.hid (rd_one 2 u wa6)
        clear hbl
        generalize wa6.heap.size = ub at HRU ⊢
        generalize wa6.alloc (.cells #[.int .i64 u] 2) = wu at HO7 HS7 HG7 HRU ⊢
        refine hK.out _ _ ?_ (fun hHeld => ?_)
        · exact trivial
        clear hK K
        try simp only [pa, pb, pc, Act.put, pe, pf, pg]
        refine wpAnyH_ready (rs := [16]) (by kernel_rfl) (by simp) (AllReadyH.cons rfl (fun K hK => ?_) (AllReadyH.nil))
        have hxn : Own 2 wu w.heap.size (.slice xo xs.length xc) xs := by
          have := HO7.out.nx _ (mcOf_mem hkt)
          rw [HXE.out] at this
          exact this
        refine app_op _ (.tmp 43) (.tmp 52) rfl w.heap.size Tryz.underlying53 info64 _ xs rfl hxn _ _ _ [u] rfl HRU.out (by omega) HG7.out.size ?_
        intro vn wn on gn
        obtain ⟨ns, hns⟩ : ∃ ns, ns = xs ++ [u] := ⟨_, rfl⟩
        have hnl : ns.length ≤ 5 := by rw [hns, List.length_append, List.length_singleton]; omega
        rw [← hns] at on
        clear hns
        obtain ⟨na, nc, rfl, on, -⟩ := on.get
        obtain ⟨cN, fN, rN, lN, bN⟩ := HO7.out.fieldN ne_md HN.out hkn HXE.out HG7.out.size gn on
        have HSF := Lib.hid (HS7.out.belowB bN hp); have HGF := Lib.hid (grown_step HG7.out bN (Nat.le_refl _)); have HRF := Lib.hid rN; have HLF := Lib.hid lN
        have HAF := Lib.hid (anyMc_set (k := k) (y := ⟨⟨x0, x1, ns⟩, na, nc⟩) HAny.out hnl)
        clear on gn bN rN lN hxn
        refine hK.out _ _ ?_ (fun hHeld => ?_)
        · exact trivial
        clear hK K
        try simp only [pa, pb, pc, Act.put, pe, pf, pg]
        refine tk (i := 17) (v := ?_) rfl (Or.inl ⟨by rfl, ?_⟩) (by assumption) ?_
        rotate_left
        · (intro w hSw; (try dsimp only at hSw); go_simp; (try with_reducible rfl))
        try simp only [pa, pb, pc, Act.put, pe, pf, pg]
        refine tk (i := 18) (v := ?_) rfl (Or.inl ⟨by rfl, ?_⟩) (by assumption) ?_
        rotate_left
        · (intro w hSw; (try dsimp only at hSw); go_simp; (try with_reducible rfl))
        try simp only [pa, pb, pc, Act.put, pe, pf, pg]
        refine wpAnyH_ready (rs := [19]) (by kernel_rfl) (by simp) (AllReadyH.cons rfl (fun K hK => ?_) (AllReadyH.nil))
        go_simp
        refine hK.out _ _ ?_ (fun hHeld => ?_)
        · exact trivial
        clear hK K
        try simp only [pa, pb, pc, Act.put, pe, pf, pg]
        refine wpAnyH_done (by kernel_rfl) ?_ _
        go_wp2_with fail
        go_ret
        exact ⟨_, _, _, _, rfl, HRF.out, HLF.out, HAF.out, HSF.out, HGF.out, hcap, hcm⟩
      · skip
        go_simp
        have hbl : Below wc.heap.size wc (wc.alloc (.cells #[.int .i64 (k : Int), .int .i64 (n : Int), .int .i64 0] 2)) := (Below.refl _ _).alloc (Nat.le_refl _) _
        have HO6 := Lib.hid (HO5.out.below hbl); have HS6 := Lib.hid (HS5.out.below hbl); have HG6 := Lib.hid (grown_trans HG5.out (grown_of_below hbl))
        have HL6 := Lib.hid (show LitAt 2 (wc.alloc (.cells #[.int .i64 (k : Int), .int .i64 (n : Int), .int .i64 0] 2)) wc.heap.size #[.int .i64 (k : Int), .int .i64 (n : Int), .int .i64 0] from LitAt.new _)
        have hpb : p < wc.heap.size := HS5.out.lt
        clear hbl
        generalize hwb : wc.heap.size = tb at HL6 hpb ⊢
        generalize wc.alloc (.cells #[.int .i64 (k : Int), .int .i64 (n : Int), .int .i64 0] 2) = wa6 at HO6 HS6 HG6 HL6 ⊢
        clear hwb
        refine hK.out _ _ ?_ (fun hHeld => ?_)
        · exact trivial
        clear hK K
        try simp only [pa, pb, pc, Act.put, pe, pf, pg]
        refine tk (i := 13) (v := ?_) rfl (Or.inl ⟨by rfl, ?_⟩) (by assumption) ?_
        rotate_left
        · (intro w hSw; (try dsimp only at hSw); go_simp; (try with_reducible rfl))
        try simp only [pa, pb, pc, Act.put, pe, pf, pg]
        refine wpAnyH_ready (rs := [6, 14]) (by kernel_rfl) (by simp) (AllReadyH.cons rfl (fun K hK => ?_) (AllReadyH.cons rfl (fun K hK => ?_) (AllReadyH.nil)))
        · skip
          have hin := HO6.out.in_ HN.out hkn
          rw [HXE.out] at hin
          obtain ⟨-, -, c2⟩ := hin
          go_simp
          refine hK.out _ _ ?_ (fun hHeld => ?_)
          · exact trivial
          clear hK K
          try simp only [pa, pb, pc, Act.put, pe, pf, pg]
          clear c2
          refine wpAnyH_ready (rs := [14]) (by kernel_rfl) (by simp) (AllReadyH.cons rfl (fun K hK => ?_) (AllReadyH.nil))
          obtain ⟨u, hu⟩ := three_ints (cs := #[.int .i64 (k : Int), .int .i64 (n : Int), .int .i64 0]) rfl hz3
          have hcell := (HL6.out.cell z).trans hu
          clear hu
          go_simp
          refine hK.out _ _ ?_ (fun hHeld => ?_)
          · exact trivial
          clear hK K
          try simp only [pa, pb, pc, Act.put, pe, pf, pg]
          clear hcell
          refine wpAnyH_ready (rs := [15]) (by kernel_rfl) (by simp) (AllReadyH.cons rfl (fun K hK => ?_) (AllReadyH.nil))
          go_simp
          have hbl : Below wa6.heap.size wa6 (wa6.alloc (.cells #[.int .i64 u] 2)) := (Below.refl _ _).alloc (Nat.le_refl _) _
          have HO7 := Lib.hid (HO6.out.below hbl); have HS7 := Lib.hid (HS6.out.below hbl); have HG7 := Lib.hid (grown_trans HG6.out (grown_of_below hbl))
          have HRU := Lib.hid (rd_one 2 u wa6)
          clear hbl
          generalize wa6.heap.size = ub at HRU ⊢
          generalize wa6.alloc (.cells #[.int .i64 u] 2) = wu at HO7 HS7 HG7 HRU ⊢
          refine hK.out _ _ ?_ (fun hHeld => ?_)
          · exact trivial
          clear hK K
          try simp only [pa, pb, pc, Act.put, pe, pf, pg]
          refine wpAnyH_ready (rs := [16]) (by kernel_rfl) (by simp) (AllReadyH.cons rfl (fun K hK => ?_) (AllReadyH.nil))
          have hxn : Own 2 wu w.heap.size (.slice xo xs.length xc) xs := by
            have := HO7.out.nx _ (mcOf_mem hkt)
            rw [HXE.out] at this
            exact this
          refine app_op _ (.tmp 43) (.tmp 52) rfl w.heap.size Tryz.underlying53 info64 _ xs rfl hxn _ _ _ [u] rfl HRU.out (by omega) HG7.out.size ?_
          intro vn wn on gn
          obtain ⟨ns, hns⟩ : ∃ ns, ns = xs ++ [u] := ⟨_, rfl⟩
          have hnl : ns.length ≤ 5 := by rw [hns, List.length_append, List.length_singleton]; omega
          rw [← hns] at on
          clear hns
          obtain ⟨na, nc, rfl, on, -⟩ := on.get
          obtain ⟨cN, fN, rN, lN, bN⟩ := HO7.out.fieldN ne_md HN.out hkn HXE.out HG7.out.size gn on
          have HSF := Lib.hid (HS7.out.belowB bN hp); have HGF := Lib.hid (grown_step HG7.out bN (Nat.le_refl _)); have HRF := Lib.hid rN; have HLF := Lib.hid lN
          have HAF := Lib.hid (anyMc_set (k := k) (y := ⟨⟨x0, x1, ns⟩, na, nc⟩) HAny.out hnl)
          clear on gn bN rN lN hxn
          refine hK.out _ _ ?_ (fun hHeld => ?_)
          · exact trivial
          clear hK K
          try simp only [pa, pb, pc, Act.put, pe, pf, pg]
          refine tk (i := 17) (v := ?_) rfl (Or.inl ⟨by rfl, ?_⟩) (by assumption) ?_
          rotate_left
          · (intro w hSw; (try dsimp only at hSw); go_simp; (try with_reducible rfl))
          try simp only [pa, pb, pc, Act.put, pe, pf, pg]
          refine tk (i := 18) (v := ?_) rfl (Or.inl ⟨by rfl, ?_⟩) (by assumption) ?_
          rotate_left
          · (intro w hSw; (try dsimp only at hSw); go_simp; (try with_reducible rfl))
          try simp only [pa, pb, pc, Act.put, pe, pf, pg]
          refine wpAnyH_ready (rs := [19]) (by kernel_rfl) (by simp) (AllReadyH.cons rfl (fun K hK => ?_) (AllReadyH.nil))
          go_simp
          refine hK.out _ _ ?_ (fun hHeld => ?_)
          · exact trivial
          clear hK K
          try simp only [pa, pb, pc, Act.put, pe, pf, pg]
          refine wpAnyH_done (by kernel_rfl) ?_ _
          go_wp2_with fail
          go_ret
          exact ⟨_, _, _, _, rfl, HRF.out, HLF.out, HAF.out, HSF.out, HGF.out, hcap, hcm⟩
        · skip
          obtain ⟨u, hu⟩ := three_ints (cs := #[.int .i64 (k : Int), .int .i64 (n : Int), .int .i64 0]) rfl hz3
          have hcell := (HL6.out.cell z).trans hu
          clear hu
          go_simp
          refine hK.out _ _ ?_ (fun hHeld => ?_)
          · exact trivial
          clear hK K
          try simp only [pa, pb, pc, Act.put, pe, pf, pg]
          clear hcell
          refine wpAnyH_ready (rs := [6, 15]) (by kernel_rfl) (by simp) (AllReadyH.cons rfl (fun K hK => ?_) (AllReadyH.cons rfl (fun K hK => ?_) (AllReadyH.nil)))
          · skip
            have hin := HO6.out.in_ HN.out hkn
            rw [HXE.out] at hin
            obtain ⟨-, -, c2⟩ := hin
            go_simp
            refine hK.out _ _ ?_ (fun hHeld => ?_)
            · exact trivial
            clear hK K
            try simp only [pa, pb, pc, Act.put, pe, pf, pg]
            clear c2
            refine wpAnyH_ready (rs := [15]) (by kernel_rfl) (by simp) (AllReadyH.cons rfl (fun K hK => ?_) (AllReadyH.nil))
            go_simp
            have hbl : Below wa6.heap.size wa6 (wa6.alloc (.cells #[.int .i64 u] 2)) := (Below.refl _ _).alloc (Nat.le_refl _) _
            have HO7 := Lib.hid (HO6.out.below hbl); have HS7 := Lib.hid (HS6.out.below hbl); have HG7 := Lib.hid (grown_trans HG6.out (grown_of_below hbl))
            have HRU := Lib.hid (rd_one 2 u wa6)
            clear hbl
            generalize wa6.heap.size = ub at HRU ⊢
            generalize wa6.alloc (.cells #[.int .i64 u] 2) = wu at HO7 HS7 HG7 HRU ⊢
            refine hK.out _ _ ?_ (fun hHeld => ?_)
            · exact trivial
            clear hK K
            try simp only [pa, pb, pc, Act.put, pe, pf, pg]
            refine wpAnyH_ready (rs := [16]) (by kernel_rfl) (by simp) (AllReadyH.cons rfl (fun K hK => ?_) (AllReadyH.nil))
            have hxn : Own 2 wu w.heap.size (.slice xo xs.length xc) xs := by
              have := HO7.out.nx _ (mcOf_mem hkt)
              rw [HXE.out] at this
              exact this
            refine app_op _ (.tmp 43) (.tmp 52) rfl w.heap.size Tryz.underlying53 info64 _ xs rfl hxn _ _ _ [u] rfl HRU.out (by omega) HG7.out.size ?_
            intro vn wn on gn
            obtain ⟨ns, hns⟩ : ∃ ns, ns = xs ++ [u] := ⟨_, rfl⟩
            have hnl : ns.length ≤ 5 := by rw [hns, List.length_append, List.length_singleton]; omega
            rw [← hns] at on
            clear hns
            obtain ⟨na, nc, rfl, on, -⟩ := on.get
            obtain ⟨cN, fN, rN, lN, bN⟩ := HO7.out.fieldN ne_md HN.out hkn HXE.out HG7.out.size gn on
            have HSF := Lib.hid (HS7.out.belowB bN hp); have HGF := Lib.hid (grown_step HG7.out bN (Nat.le_refl _)); have HRF := Lib.hid rN; have HLF := Lib.hid lN
            have HAF := Lib.hid (anyMc_set (k := k) (y := ⟨⟨x0, x1, ns⟩, na, nc⟩) HAny.out hnl)
            clear on gn bN rN lN hxn
            refine hK.out _ _ ?_ (fun hHeld => ?_)
            · exact trivial
            clear hK K
            try simp only [pa, pb, pc, Act.put, pe, pf, pg]
            refine tk (i := 17) (v := ?_) rfl (Or.inl ⟨by rfl, ?_⟩) (by assumption) ?_
            rotate_left
            · (intro w hSw; (try dsimp only at hSw); go_simp; (try with_reducible rfl))
            try simp only [pa, pb, pc, Act.put, pe, pf, pg]
            refine tk (i := 18) (v := ?_) rfl (Or.inl ⟨by rfl, ?_⟩) (by assumption) ?_
            rotate_left
            · (intro w hSw; (try dsimp only at hSw); go_simp; (try with_reducible rfl))
            try simp only [pa, pb, pc, Act.put, pe, pf, pg]
            refine wpAnyH_ready (rs := [19]) (by kernel_rfl) (by simp) (AllReadyH.cons rfl (fun K hK => ?_) (AllReadyH.nil))
            go_simp
            refine hK.out _ _ ?_ (fun hHeld => ?_)
            · exact trivial
            clear hK K
            try simp only [pa, pb, pc, Act.put, pe, pf, pg]
            refine wpAnyH_done (by kernel_rfl) ?_ _
            go_wp2_with fail
            go_ret
            exact ⟨_, _, _, _, rfl, HRF.out, HLF.out, HAF.out, HSF.out, HGF.out, hcap, hcm⟩
          · skip
            go_simp
            have hbl : Below wa6.heap.size wa6 (wa6.alloc (.cells #[.int .i64 u] 2)) := (Below.refl _ _).alloc (Nat.le_refl _) _
            have HO7 := Lib.hid (HO6.out.below hbl); have HS7 := Lib.hid (HS6.out.below hbl); have HG7 := Lib.hid (grown_trans HG6.out (grown_of_below hbl))
            have HRU := Lib.hid (rd_one 2 u wa6)
            clear hbl
            generalize wa6.heap.size = ub at HRU ⊢
            generalize wa6.alloc (.cells #[.int .i64 u] 2) = wu at HO7 HS7 HG7 HRU ⊢
            refine hK.out _ _ ?_ (fun hHeld => ?_)
            · exact trivial
            clear hK K
            try simp only [pa, pb, pc, Act.put, pe, pf, pg]
            refine wpAnyH_ready (rs := [6]) (by kernel_rfl) (by simp) (AllReadyH.cons rfl (fun K hK => ?_) (AllReadyH.nil))
            have hin := HO7.out.in_ HN.out hkn
            rw [HXE.out] at hin
            obtain ⟨-, -, c2⟩ := hin
            go_simp
            refine hK.out _ _ ?_ (fun hHeld => ?_)
            · exact trivial
            clear hK K
            try simp only [pa, pb, pc, Act.put, pe, pf, pg]
            clear c2
            refine wpAnyH_ready (rs := [16]) (by kernel_rfl) (by simp) (AllReadyH.cons rfl (fun K hK => ?_) (AllReadyH.nil))
            have hxn : Own 2 wu w.heap.size (.slice xo xs.length xc) xs := by
              have := HO7.out.nx _ (mcOf_mem hkt)
              rw [HXE.out] at this
              exact this
            refine app_op _ (.tmp 43) (.tmp 52) rfl w.heap.size Tryz.underlying53 info64 _ xs rfl hxn _ _ _ [u] rfl HRU.out (by omega) HG7.out.size ?_
            intro vn wn on gn
            obtain ⟨ns, hns⟩ : ∃ ns, ns = xs ++ [u] := ⟨_, rfl⟩
            have hnl : ns.length ≤ 5 := by rw [hns, List.length_append, List.length_singleton]; omega
            rw [← hns] at on
            clear hns
            obtain ⟨na, nc, rfl, on, -⟩ := on.get
            obtain ⟨cN, fN, rN, lN, bN⟩ := HO7.out.fieldN ne_md HN.out hkn HXE.out HG7.out.size gn on
            have HSF := Lib.hid (HS7.out.belowB bN hp); have HGF := Lib.hid (grown_step HG7.out bN (Nat.le_refl _)); have HRF := Lib.hid rN; have HLF := Lib.hid lN
            have HAF := Lib.hid (anyMc_set (k := k) (y := ⟨⟨x0, x1, ns⟩, na, nc⟩) HAny.out hnl)
            clear on gn bN rN lN hxn
            refine hK.out _ _ ?_ (fun hHeld => ?_)
            · exact trivial
            clear hK K
            try simp only [pa, pb, pc, Act.put, pe, pf, pg]
            refine tk (i := 17) (v := ?_) rfl (Or.inl ⟨by rfl, ?_⟩) (by assumption) ?_
            rotate_left
            · (intro w hSw; (try dsimp only at hSw); go_simp; (try with_reducible rfl))
            try simp only [pa, pb, pc, Act.put, pe, pf, pg]
            refine tk (i := 18) (v := ?_) rfl (Or.inl ⟨by rfl, ?_⟩) (by assumption) ?_
            rotate_left
            · (intro w hSw; (try dsimp only at hSw); go_simp; (try with_reducible rfl))
            try simp only [pa, pb, pc, Act.put, pe, pf, pg]
            refine wpAnyH_ready (rs := [19]) (by kernel_rfl) (by simp) (AllReadyH.cons rfl (fun K hK => ?_) (AllReadyH.nil))
            go_simp
            refine hK.out _ _ ?_ (fun hHeld => ?_)
            · exact trivial
            clear hK K
            try simp only [pa, pb, pc, Act.put, pe, pf, pg]
            refine wpAnyH_done (by kernel_rfl) ?_ _
            go_wp2_with fail
            go_ret
            exact ⟨_, _, _, _, rfl, HRF.out, HLF.out, HAF.out, HSF.out, HGF.out, hcap, hcm⟩
  have t2 : (y == 2) = false := by simp [h2]
  clear h2
  by_cases h3 : y = 3
  · subst h3
    go_wp2_with fail
    go_ret
    exact ⟨_, _, _, [], rfl, RdM.nil_, ⟨fun _ _ e => (by cases e), fun _ h => (by cases h)⟩, ⟨by simp, fun x hx => by cases hx⟩, HS3.out, HG3.out, Nat.zero_le _, Nat.zero_le _⟩
  have t3 : (y == 3) = false := by simp [h3]
  clear h3
  by_cases h4 : y = 4
  · subst h4
    have hs3 : w3.heap.size ≤ w3.heap.size := Nat.le_refl _
    go_wp2_with (at_make; refine make_md _ (EI := 2) rfl _ _ rfl w3.heap.size Tryz.underlying25 infoMd _ _ _ _ 17 rfl rfl rfl rfl (by omega) hs3 ?_; intro w4 o4 b4)
    have HR4 := Lib.hid (rdM_row o4.row o4.nx)
    have HS4 := Lib.hid (HS3.out.below b4); have HG4 := Lib.hid (grown_trans HG3.out (grown_of_below b4))
    clear o4 b4
    go_wp2_with fail
    go_ret
    obtain ⟨ao4, cap4, e4, r4, l4⟩ := HR4.out
    rw [List.length_replicate] at e4 r4
    cases e4
    exact ⟨_, _, _, _, rfl, r4, l4.more (HG3.out.size), ⟨by rw [List.length_replicate]; omega, fun c hc => by rw [List.eq_of_mem_replicate hc]; exact Nat.zero_le _⟩, HS4.out, HG4.out, by simp, by simp⟩
  have t4 : (y == 4) = false := by simp [h4]
  clear h4
  have hrd : RdM w3 (some ⟨g, 0, none⟩) n cs ∧ LowM w.heap.size (some ⟨g, 0, none⟩) cs := by
    obtain ⟨ao', cap', e, r⟩ := rdM_row HO3.out.row HO3.out.nx
    rw [HN.out] at e r
    cases e
    exact r
  have HRD := Lib.hid hrd; clear hrd
  go_wp2_with fail
  go_ret
  exact ⟨_, _, _, cs, rfl, HRD.out.1, HRD.out.2, HAny.out, HS3.out, HG3.out, hcap, hcm⟩
end
end Go.Proofs.YthihjhidjnadaaaGreat
