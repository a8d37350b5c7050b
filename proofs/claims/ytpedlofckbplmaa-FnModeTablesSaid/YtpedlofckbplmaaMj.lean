/-
  Chapter 11: the model draws mode tables.
-/
import Derived.Test.YtpedlofckbplmaaP1
import Derived.Test.YtpedlofckbplmaaHl
import Derived.Test.YtpedlofckbplmaaDrawA
namespace Go.Proofs.Ytpedlofckbplmaa
open Go.RowKit

/-- A table lies in blocks from B on. -/
def LowM (B : Nat) (ao : Option Addr) (cs : List Mc) : Prop := (∀ b off, ao = some ⟨b, off, none⟩ → B ≤ b) ∧ ∀ c ∈ cs, ∀ b off, c.ao = some ⟨b, off, none⟩ → B ≤ b
section
variable {w w' : World} {E EI base n : Nat} {v : Value} {cs : List Mc} {c : Mc}
theorem LowM.more {B B' : Nat} {ao : Option Addr} (h : LowM B ao cs) (hb : B' ≤ B) : LowM B' ao cs := ⟨fun b off e => Nat.le_trans hb (h.1 b off e), fun c hc b off e => Nat.le_trans hb (h.2 c hc b off e)⟩
/-- Only block p is written, and the table lies above it. -/
theorem RdM.far {B p : Nat} {ao : Option Addr} (h : RdM w ao n cs) (hl : LowM B ao cs) (hg : w.grownBy w' (some p)) (hp : p < B) : RdM w' ao n cs :=
  ⟨h.len, fun h0 => by
    obtain ⟨b, off, e, hc⟩ := h.here h0
    have := hl.1 b off e
    exact ⟨b, off, e, fun i hi => (hc i hi).grown hg (fun e2 => by cases e2; omega)⟩, fun c hc => ⟨(h.next c hc).rd.only hg (fun b off e e2 => by have := hl.2 c hc b off e; cases e2; omega), (h.next c hc).le, (h.next c hc).cap⟩⟩
/-- A table whose row and lists are the call's own reads as its entries. -/
theorem rdM_row (h0 : w.ownsRow base E 3 v cs.length (cs.flatMap mcCells)) (hn : ∀ c ∈ cs, Own EI w base c.v c.md.next) : ∃ ao cap, v = .slice ao cs.length cap ∧ RdM w ao cs.length cs ∧ LowM base ao cs := by
  have hlow : ∀ c ∈ cs, ∀ b off, c.ao = some ⟨b, off, none⟩ → base ≤ b := fun c hc b off e => ((hn c hc).block b (by unfold Mc.v; rw [e]; rfl)).1
  have hnx : ∀ c ∈ cs, McRd w c := fun c hc => (hn c hc).mcRd
  rcases h0.2 with ⟨rfl, h2⟩ | ⟨g, cap, cur, rfl, hg, hh, hn, hcap, hsz, htake⟩
  · have : cs = [] := List.length_eq_zero_iff.1 h2
    subst this
    exact ⟨none, 0, rfl, RdM.nil_, fun _ _ e => (by cases e), hlow⟩
  · have hc : ∀ i j, i < cs.length → j < 3 → w.cell? ⟨g, 0 + i * 3 + j, none⟩ = (mcCells (mcOf cs i))[j]? := fun i j hi hj => by
      rw [Nat.zero_add, World.ownsRow.cellAt h0 (i * 3 + j) (by omega), flatM_get cs i j hi hj]
    exact ⟨_, cap, rfl, ⟨rfl, fun _ => ⟨g, 0, rfl, fun i hi => ⟨hc i 0 hi (by omega), hc i 1 hi (by omega), hc i 2 hi (by omega)⟩⟩, hnx⟩, fun b off e => (by cases e; exact hg), hlow⟩
end
section
variable {P : Program} {E EI T : Nat} (w : World) {ops : Array Oper} {rest : List Oper} {o : Oper} {a : Act} {Q : Exit → Act → World → Prop}
theorem appM_list (hgd : o.guard = none) (hne : E ≠ EI) (s x : Operand) (ho : o.op = .call { callee := .builtin .append, args := #[s, x], argTypes := #[T, T] })
    (base : Nat) (ht : P.underlying T = some (.slice E)) (hi : InfoMd P E)
    (v : Value) (cs : List Mc) (hs : a.eval s = v) (hown : OwnM E EI w base v cs) (b : Nat) (y : Mc) (c : Nat) (hx : a.eval x = .slice (some ⟨b, 0, none⟩) 1 c) (hc : McIn w b 0 y)
    (hy : Own EI w base y.v y.md.next) (ha : ∀ d ∈ cs, ∀ k, d.v.ownBlock = some k → y.v.ownBlock ≠ some k)
    (hlen : cs.length ≤ 1048576) (hbase : base ≤ w.heap.size)
    (h : ∀ v' w', OwnM E EI w' base v' (cs ++ [y]) → w.grownBy w' v.ownBlock → wpList P ops Q rest (a.put o.dst v') w') : wpList P ops Q (o :: rest) a w :=
  wpList_plain hgd fun _ hK => appM_op w hne s x ho base ht hi v cs hs hown b y c hx hc hy ha hlen hbase fun v' w' h1 h2 => hK _ _ (h v' w' h1 h2)
end
/-- What a draw of a table leaves: of old memory only the source has been written. -/
def DrawnM0 (w : World) (p : Nat) (e : Ending) (w' : World) : Prop :=
  ∃ v cs, e = .returned v ∧ OwnM 78 2 w' w.heap.size v cs ∧ (1 ≤ cs.length ∧ cs.length ≤ 4) ∧ (∀ c ∈ cs, c.md.next.length ≤ 4) ∧ Src 107 w' p ∧ w.grownBy w' (some p)
theorem grown_self (w : World) (p : Nat) : w.grownBy w (some p) := ⟨rfl, rfl, rfl, Nat.le_refl _, fun _ _ _ => rfl⟩
set_option maxHeartbeats 2000000 in
set_option maxRecDepth 100000 in
theorem l11Draw_any (p : Nat) (w : World) (hs : Src 107 w p) : Calls Try.prog 70 #[.pointer (some ⟨p, 0, none⟩)] w (DrawnM0 w p) := by
  have hp := hs.lt
  have ho0 : OwnM 78 2 (w.alloc (.cells #[] 78)) w.heap.size (.slice (some ⟨w.heap.size, 0, none⟩) 0 0) [] := OwnM.of_alloc_nil (Nat.le_refl _)
  have hb0 : Below w.heap.size w (w.alloc (.cells #[] 78)) := (Below.refl _ _).alloc (Nat.le_refl _) _
  have HO0 := Lib.hid ho0; have HB0 := Lib.hid hb0; have HS0 := Lib.hid (hs.below hb0); clear ho0 hb0 hs
  go_enter Try.func70, Try.ntmps70
  go_wp2_with fail
  refine (next_any _ _ _ HS0.out (by omega)).mono ?_
  rintro e w1 ⟨c, rfl, hc0, hc1, -, hs1, g1⟩
  have hc2 : c < 4 := hc1 (by omega)
  obtain ⟨c, rfl⟩ := Int.eq_ofNat_of_zero_le hc0
  have HO1 := Lib.hid (HO0.out.old g1 hp); have HS1 := Lib.hid hs1; have HG1 := Lib.hid (grown_trans (grown_of_below HB0.out) g1)
  clear hc0 hc1 hs1 g1
  go_wp2_with fail
  go_loopw [3, 5] (fun V I wr => ∃ (k : Nat) (cs : List Mc), I = .int .i64 (k : Int) ∧ k ≤ c + 1 ∧ cs.length = k ∧ Hid (∀ d ∈ cs, d.md.next.length ≤ 4) ∧ OwnM 78 2 wr w.heap.size V cs ∧ Src 107 wr p ∧ w.grownBy wr (some p)) (fun _ I _ => c + 1 - (intOf I).toNat)
  case atStart => exact ⟨0, [], rfl, by omega, rfl, (fun _ h => by cases h), HO1.out, HS1.out, HG1.out⟩
  case round =>
    clear HO0 HB0 HS0 HO1 HS1 HG1
    obtain ⟨k, cs, rfl, hk, hl, hsm, ho, hsr, hg⟩ := hrel
    obtain ⟨wo, hwo⟩ : ∃ wo, wo = wr := ⟨_, rfl⟩
    subst hwo
    have HO := Lib.hid ho; have HSR := Lib.hid hsr; have HG := Lib.hid hg; clear ho hsr hg
    by_cases hkc : k < c + 1
    · have hki : (k : Int) < 1 + (c : Int) := by omega
      have hpr : p < wo.heap.size := HSR.out.lt
      have hbl : Below wo.heap.size wo (wo.alloc (.cells #[] 2)) := (Below.refl _ _).alloc (Nat.le_refl _) _
      have HN0 := Lib.hid (show Own 2 (wo.alloc (.cells #[] 2)) wo.heap.size (.slice (some ⟨wo.heap.size, 0, none⟩) 0 0) [] from Own.of_alloc_nil (Nat.le_refl _))
      have HSN := Lib.hid (HSR.out.below hbl); have HGN := Lib.hid (show wo.grownBy _ (some p) from grown_of_below hbl)
      clear hbl
      go_wp2_with fail
      go_loopw [6, 7] (fun V I wq => ∃ (j : Nat) (ns : List Int), I = .int .i64 (j : Int) ∧ j ≤ c + 1 ∧ ns.length ≤ j ∧ Own 2 wq wo.heap.size V ns ∧ Src 107 wq p ∧ wo.grownBy wq (some p)) (fun _ I _ => c + 1 - (intOf I).toNat)
      case atStart => exact ⟨0, [], rfl, by omega, Nat.le_refl _, HN0.out, HSN.out, HGN.out⟩
      case round =>
        clear HN0 HSN HGN
        obtain ⟨j, ns, rfl, hj, hnl, hon, hsq, hgq⟩ := hrel
        have HON := Lib.hid hon; have HSQ := Lib.hid hsq; have HGQ := Lib.hid hgq; clear hon hsq hgq
        by_cases hjc : j < c + 1
        · have hji : (j : Int) < 1 + (c : Int) := by omega
          by_cases hjk : j = k
          · subst hjk
            go_wp2_with fail
            go_roundw
            case rel => exact ⟨j + 1, ns, by go_num, by omega, by omega, HON.out, HSQ.out, HGQ.out⟩
            case measure => simp [intOf]; omega
          · have hjb : ((j : Int) != (k : Int)) = true := bne_iff_ne.2 (fun e => hjk (Int.ofNat_inj.1 e))
            go_wp2_with fail
            refine (next_any _ _ _ HSQ.out (by omega)).mono ?_
            rintro e w3 ⟨x, rfl, hx0, hx1, -, hs3, g3⟩
            have HON3 := Lib.hid (HON.out.src g3 hpr); have HSQ3 := Lib.hid hs3; have HGQ3 := Lib.hid (grown_trans HGQ.out g3)
            clear hs3 g3 hx1 HON HSQ HGQ
            by_cases hx : x = 0
            · subst hx
              have hs3 : wo.heap.size ≤ w3.heap.size := HGQ3.out.size
              have hnl2 : ns.length ≤ 4294967296 := by omega
              go_wp2_with (at_builtin; refine append_one _ rfl (.tmp 31) (.tmp 33) rfl wo.heap.size Try.underlying26 info64 _ _ rfl (HON3.out.below ((Below.refl _ _).alloc (Nat.le_refl _) _)) _ _ _ rfl (new_cell rfl) hnl2 (by simp; omega) ?_; intro v6 w6 o6 b6)
              have hb6 := ((Below.refl wo.heap.size w3).alloc hs3 (.cells #[.int .i64 (j : Int)] 2)).trans b6
              have HON6 := Lib.hid o6; have HSQ6 := Lib.hid (HSQ3.out.belowB hb6 hpr); have HGQ6 := Lib.hid (grown_step HGQ3.out hb6 (Nat.le_refl _))
              clear o6 b6 hb6
              go_roundw
              case rel => exact ⟨j + 1, ns ++ [(j : Int)], by go_num, by omega, by rw [List.length_append, List.length_singleton]; omega, HON6.out, HSQ6.out, HGQ6.out⟩
              case measure => simp [intOf]; omega
            · have hxb : (x == 0) = false := by simp [hx]
              go_wp2_with fail
              go_roundw
              case rel => exact ⟨j + 1, ns, by go_num, by omega, by omega, HON3.out, HSQ3.out, HGQ3.out⟩
              case measure => simp [intOf]; omega
        · have hji : ¬ (j : Int) < 1 + (c : Int) := by omega
          have hn4 : ns.length ≤ 4 := by omega
          obtain ⟨na, nc, rfl, hon, -⟩ := HON.out.get
          have HO2 := Lib.hid (HO.out.old HGQ.out hp); have HG2 := Lib.hid (show w.grownBy wr (some p) from ⟨HGQ.out.os.trans HG.out.os, HGQ.out.tape.trans HG.out.tape, HGQ.out.output.trans HG.out.output, Nat.le_trans HG.out.size HGQ.out.size, fun i hi hne => (HGQ.out.block i (Nat.lt_of_lt_of_le hi HG.out.size) hne).trans (HG.out.block i hi hne)⟩)
          have HON2 := Lib.hid hon
          clear hon HON hj hjc
          go_wp2_with fail
          refine (next_any _ _ _ HSQ.out (by omega)).mono ?_
          rintro e w3 ⟨x, rfl, hx0, hx1, -, hs3, g3⟩
          have hx2 : x < 3 := hx1 (by omega)
          have HO3 := Lib.hid (HO2.out.old g3 hp); have HON3 := Lib.hid (HON2.out.src g3 hpr); have HS3 := Lib.hid hs3; have HG3 := Lib.hid (grown_trans HG2.out g3)
          clear hs3 g3 hx1 HON2 HSQ HGQ HO2 HG2
          go_wp2_with fail
          refine (next_any _ _ _ HS3.out (by omega)).mono ?_
          rintro e w4 ⟨y, rfl, hy0, hy1, -, hs4, g4⟩
          have hy2 : y < 4 := hy1 (by omega)
          have HO4 := Lib.hid (HO3.out.old g4 hp); have HON4 := Lib.hid (HON3.out.src g4 hpr); have HS4 := Lib.hid hs4; have HG4 := Lib.hid (grown_trans HG3.out g4)
          clear hs4 g4 hy1 HON3 HO3 HG3 HS3
          have hbl : Below w4.heap.size w4 (w4.alloc (.cells #[.int .i64 (1 + x), .int .i64 (1 + y), .slice na ns.length nc] 78)) := (Below.refl _ _).alloc (Nat.le_refl _) _
          have HAT := Lib.hid (McAt.new (T := 78) (c := ⟨⟨1 + x, 1 + y, ns⟩, na, nc⟩) w4).in_
          have HO5 := Lib.hid (HO4.out.below hbl)
          have HON5 := Lib.hid (show Own 2 _ w.heap.size (Mc.v ⟨⟨1 + x, 1 + y, ns⟩, na, nc⟩) ns from (HON4.out.below hbl).more HG.out.size)
          have HFR := Lib.hid (show ∀ d ∈ cs, ∀ k, d.v.ownBlock = some k → (Mc.v ⟨⟨1 + x, 1 + y, ns⟩, na, nc⟩).ownBlock ≠ some k from HO.out.fresh HON4.out)
          have hs5 : w.heap.size ≤ w4.heap.size := HG4.out.size
          have HB5 := Lib.hid hbl
          have hcl : cs.length ≤ 1048576 := by omega
          clear hbl HO4 HON4
          go_wp2_with (at_builtin; go_loud (refine appM_list _ rfl ne_md (.tmp 35) (.tmp 44) rfl w.heap.size Try.underlying39 infoMd _ cs rfl HO5.out _ (⟨⟨1 + x, 1 + y, ns⟩, na, nc⟩ : Mc) _ rfl HAT.out HON5.out HFR.out hcl (Nat.le_trans hs5 HB5.out.size) ?_; intro v6 w6 o6 g6))
          have hb6 : Below w.heap.size w4 w6 := ((Below.refl _ _).alloc hs5 _).grown g6 (by have := HB5.out.size; omega) (fun k e => (HO5.out.block k e).1)
          have HO6 := Lib.hid o6; have HS6 := Lib.hid (HS4.out.belowB hb6 hp); have HG6 := Lib.hid (grown_step HG4.out hb6 (Nat.le_refl _))
          clear o6 g6 hb6
          go_roundw
          case rel => exact ⟨k + 1, cs ++ [⟨⟨1 + x, 1 + y, ns⟩, na, nc⟩], by go_num, by omega, by rw [List.length_append, List.length_singleton]; omega, fun d hd => by
            rcases List.mem_append.1 hd with hd | hd
            · exact hsm.out d hd
            · rw [List.mem_singleton] at hd; subst hd; exact hn4, HO6.out, HS6.out, HG6.out⟩
          case measure => simp [intOf]; omega
    · have hki : ¬ (k : Int) < 1 + (c : Int) := by omega
      go_wp2_with fail
      go_ret
      exact ⟨_, cs, rfl, HO.out, ⟨by omega, by omega⟩, hsm.out, HSR.out, HG.out⟩
end Go.Proofs.Ytpedlofckbplmaa
