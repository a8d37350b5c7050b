/-
  Chapter 10: the bytes of a table, by the model and by the program.
-/
import Derived.Test.YtpedlofckbplmaaAp
import Derived.Laws.IdiomStrings
namespace Go.Proofs.Ytpedlofckbplmaa
open Go.RowKit

theorem flag_any (c : Bool) (w : World) : Calls Try.prog 52 #[.bool c] w fun e w' => e = .returned (.int .i64 (flag10 c)) ∧ Below w.heap.size w w' := by
  cases c with
  | true =>
    go_enter Try.func52, Try.ntmps52
    go_wp2
    go_ret
    exact ⟨rfl, Below.refl _ _⟩
  | false =>
    go_enter Try.func52, Try.ntmps52
    go_wp2
    go_ret
    exact ⟨rfl, Below.refl _ _⟩
/-- Block b holds the bytes of a string. -/
def BytesAt (T : Nat) (w : World) (b : Nat) (s : ByteArray) : Prop := ∃ cur fz, w.heap[b]? = some (.cells cur T fz) ∧ ∀ i, i < s.size → w.cell? ⟨b, i, none⟩ = some (.int .u8 ((nums s).getD i 0))
theorem BytesAt.grown {T b : Nat} {w w' : World} {s : ByteArray} {g : Option Nat} (h : BytesAt T w b s) (hg : w.grownBy w' g) (hne : some b ≠ g) : BytesAt T w' b s := by
  obtain ⟨cur, fz, h1, h2⟩ := h
  exact ⟨cur, fz, (hg.block b (Array.getElem?_eq_some_iff.1 h1).1 hne).trans h1, fun i hi => hg.cell (h2 i hi) hne⟩
theorem BytesAt.below {T b B : Nat} {w w' : World} {s : ByteArray} (h : BytesAt T w b s) (hb : Below B w w') (hlt : b < B) : BytesAt T w' b s := by
  obtain ⟨cur, fz, h1, h2⟩ := h
  exact ⟨cur, fz, (hb.block b hlt).trans h1, fun i hi => (hb.cell (p := ⟨b, i, none⟩) hlt).trans (h2 i hi)⟩
theorem BytesAt.lt {T b : Nat} {w : World} {s : ByteArray} (h : BytesAt T w b s) : b < w.heap.size := by
  obtain ⟨cur, fz, h1, -⟩ := h
  exact (Array.getElem?_eq_some_iff.1 h1).1
theorem BytesAt.new {T : Nat} (w : World) (s : ByteArray) (C : Nat) (fz : Nat × Nat) : BytesAt T (w.alloc (.cells (bytesRow s C) T fz)) w.heap.size s := by
  refine ⟨_, _, heap_alloc_new w _, fun i hi => ?_⟩
  rw [cell_of_row _ _ i _ _ _ (heap_alloc_new w _), bytesRow_at s C i hi, nums_getD s i hi]
  rfl
theorem below_app {B : Nat} {w0 w1 w2 : World} {X : Obj} {v : Value} (h : Below B w0 w1) (hB : B ≤ w1.heap.size) (g : (w1.alloc X).grownBy w2 v.ownBlock) (hb : ∀ k, v.ownBlock = some k → B ≤ k) : Below B w0 w2 :=
  (h.alloc hB X).grown g (by have : w1.heap.size ≤ (w1.alloc X).heap.size := by simp
                             omega) hb
theorem getD_take {xs : List Int} {k i : Nat} (h : i < k) : (xs.take k).getD i 0 = xs.getD i 0 := by simp [List.getD, h]

set_option maxHeartbeats 2000000 in
set_option maxRecDepth 100000 in
set_option linter.unusedSimpArgs false in
/-- spec.l10Bytes. -/
theorem l10Bytes_any (ao : Option Addr) (n cap : Nat) (t : List Nd) (w : World) (hr : RdN w ao n t) (hn : n ≤ 1048576) (hB : okB t) :
    Calls Try.prog 53 #[.slice ao n cap] w (Makes 2 w (tabBytes t)) := by
  have HL := Lib.hid hr.len
  have HB1 := Lib.hid hB; clear hB
  have HR := Lib.hid hr; clear hr
  go_enter Try.func53, Try.ntmps53
  go_wp2_with fail
  have hone := Own.one (E := 2) (base := w.heap.size) (w := w) (n : Int) (Nat.le_refl _)
  have htz : tabToN t 0 = [(n : Int)] := by rw [tabToN_zero, HL.out]
  rw [← htz] at hone
  have hb0 : Below w.heap.size w (w.alloc (.cells #[.int .i64 (n : Int)] 2)) := (Below.refl _ _).alloc (Nat.le_refl _) _
  go_loopw [3, 4] (fun o i wr => ∃ k : Nat, k ≤ n ∧ i = .int .i64 k ∧ Own 2 wr w.heap.size o (tabToN t k) ∧ Below w.heap.size w wr) (fun _ i _ => n - (intOf i).toNat)
  case atStart => exact ⟨0, Nat.zero_le _, rfl, hone, hb0⟩
  case round =>
    clear hone htz hb0
    obtain ⟨k, hk, rfl, hown, hb⟩ := hrel
    by_cases hlt : k < n
    · have hkt : k < t.length := by rw [HL.out]; exact hlt
      obtain ⟨g, off, rfl, hg, hx⟩ := HR.out.at hlt
      replace hx := hx.below hb hg
      have hdr := HB1.out.2 k hkt
      have hsucc := tabToN_succ hkt
      have hle : (tabToN t (k + 1)).length ≤ 1000000 := Nat.le_trans tabToN_le HB1.out.1
      rw [hsucc, List.length_append, ndBytes_len] at hle
      obtain ⟨x, hxe⟩ : ∃ x, x = ndOf t k := ⟨_, rfl⟩
      rw [← hxe] at hx hdr hsucc hle
      obtain ⟨hd, hde⟩ : ∃ hd, hd = tabToN t k := ⟨_, rfl⟩
      rw [← hde] at hown hle hsucc
      have hq1 : IntKind.i64.wrap (x.drift.tdiv 256) = x.drift / 256 := by rw [Int.tdiv_eq_ediv_of_nonneg hdr.1, IntKind.wrap_i64]; omega
      have hq2 : x.drift.tmod 256 = x.drift % 256 := by rw [Int.tmod_eq_emod_of_nonneg hdr.1]
      have hw0 : wr.heap.size < (wr.alloc (.cells #[.int .i64 x.id, .string x.name, .int .i64 x.drift, .bool x.pas] 59)).heap.size := by simp
      have hbb : Below wr.heap.size wr (wr.alloc (.cells #[.int .i64 x.id, .string x.name, .int .i64 x.drift, .bool x.pas] 59)) := (Below.refl _ _).alloc (Nat.le_refl _) _
      have HAT := Lib.hid (NdAt.new (T := 59) (x := x) wr)
      have HOW := Lib.hid (hown.below hbb)
      have HBE := Lib.hid (below_two hb hbb)
      have HSU := Lib.hid hsucc; have HLE := Lib.hid hle
      have hsl : x.name.size ≤ 1000000 := by omega
      clear hxe hde hkt hown hb hsucc hle hdr hbb
      obtain ⟨h0, h1, h2, h3⟩ := hx
      obtain ⟨xi, xn, xf, xp⟩ := x
      dsimp only at *
      rcases xp with _ | _
      · have hflag : flag10 false = 0 := rfl
        have HFL := Lib.hid hflag; clear hflag
        go_upto_region 6 with fail
        clear h0 h1 h2 h3
        generalize hbx : wr.heap.size = bx at HAT HOW hw0 ⊢
        generalize wr.alloc (.cells #[.int .i64 xi, .string xn, .int .i64 xf, .bool false] 59) = w1 at HAT HOW HBE hw0 ⊢
        obtain ⟨c0, c1, c2, c3⟩ := HAT.out.in_
        have bbx := fun X => (Below.refl w1.heap.size w1).alloc (Nat.le_refl _) X
        have HBBX := Lib.hid bbx; clear bbx hbx
        have hneX := HOW.out.ne_nd HAT.out (by decide)
        have HNE := Lib.hid hneX; clear hneX
        go_wp2_with (at_builtin; refine app_list _ rfl (.tmp 23) (.tmp 36) rfl w.heap.size Try.underlying26 info64 _ hd rfl (HOW.out.below (HBBX.out _)) _ 5 _ [xi, xf / 256, xf % 256, 0, (xn.size : Int)] rfl (rd_five _ _ _ _ _ _ _) (by have := HLE.out; omega) (Nat.le_trans HBE.out.size (HBBX.out _).size) ?_; intro v1 w2 o1 g1)
        have HAT2 := Lib.hid ((HAT.out.below (HBBX.out _) hw0).grown g1 HNE.out)
        have HBE2 := Lib.hid (below_app HBE.out HBE.out.size g1 (fun k hk => (HOW.out.block k hk).1))
        clear g1 c0 c1 c2 c3 HAT HOW HBE HBBX HNE hw0
        have hd5l : (hd ++ [xi, xf / 256, xf % 256, 0, (xn.size : Int)]).length = hd.length + 5 := by simp
        obtain ⟨h5, hh5⟩ : ∃ h5, h5 = hd ++ [xi, xf / 256, xf % 256, 0, (xn.size : Int)] := ⟨_, rfl⟩
        rw [← hh5] at o1 hd5l
        have HH5 := Lib.hid hh5; have HL5 := Lib.hid hd5l; clear hh5 hd5l
        have hnl := nums_len xn
        have HNL := Lib.hid hnl; clear hnl
        have o1' : Own 2 w2 w.heap.size v1 (h5 ++ (nums xn).take 0) := by rw [List.take_zero, List.append_nil]; exact o1
        clear o1

        go_loopw [3, 7] (fun o i wq => ∃ m : Nat, m ≤ xn.size ∧ i = .int .i64 m ∧ Own 2 wq w.heap.size o (h5 ++ (nums xn).take m) ∧ NdAt 59 wq bx ⟨xi, xn, xf, false⟩ ∧ Below w.heap.size w wq) (fun _ i _ => xn.size - (intOf i).toNat)
        case atStart => exact ⟨0, Nat.zero_le _, rfl, o1', HAT2.out, HBE2.out⟩
        case round =>
          clear o1' HAT2 HBE2
          obtain ⟨m, hm, rfl, ho, ha, hb⟩ := hrel
          obtain ⟨c0, c1, c2, c3⟩ := ha.in_
          by_cases hmk : m < xn.size
          · have hng := nums_getD xn m hmk
            have hkn : m < (nums xn).length := by rw [HNL.out]; exact hmk
            have hts : h5 ++ (nums xn).take (m + 1) = (h5 ++ (nums xn).take m) ++ [(nums xn).getD m 0] := by rw [take_succ' _ _ hkn, List.append_assoc]
            have hll : (h5 ++ (nums xn).take m).length ≤ 1000000 := by rw [List.length_append, List.length_take, HL5.out, HNL.out]; have := HLE.out; omega
            have hub : ((xn[m]'hmk).toNat : Int) < 256 := by have := (xn[m]'hmk).toNat_lt; omega
            have hlb : 0 ≤ ((xn[m]'hmk).toNat : Int) := by omega
            obtain ⟨c, hc⟩ : ∃ c : Int, ((xn[m]'hmk).toNat : Int) = c := ⟨_, rfl⟩
            rw [hc] at hub hlb hng
            rw [hng] at hts
            obtain ⟨pre, hpre⟩ : ∃ pre, pre = h5 ++ (nums xn).take m := ⟨_, rfl⟩
            rw [← hpre] at hts hll ho
            have hwc : IntKind.i64.wrap c = c := by rw [IntKind.wrap_i64]; omega
            have HTS := Lib.hid hts; have HOW := Lib.hid ho; have HAT := Lib.hid ha; have HBE := Lib.hid hb
            clear hng hkn hts ho ha hb hpre
            have hbx0 : bx < wr.heap.size := HAT.out.lt
            have bbx := fun X => (Below.refl wr.heap.size wr).alloc (Nat.le_refl _) X
            have HBBX := Lib.hid bbx; clear bbx
            have hneX := HOW.out.ne_nd HAT.out (by decide)
            have HNE := Lib.hid hneX; clear hneX
            go_wp2_with (at_builtin; refine app_list _ rfl (.tmp 45) (.tmp 51) rfl w.heap.size Try.underlying26 info64 _ pre rfl (HOW.out.below (HBBX.out _)) _ 1 _ [c] rfl (rd_one _ _ _) (by omega) (Nat.le_trans HBE.out.size (HBBX.out _).size) ?_; intro v3 w3 o3 g3)
            have HAT3 := Lib.hid ((HAT.out.below (HBBX.out _) hbx0).grown g3 HNE.out)
            have HBE3 := Lib.hid (below_app HBE.out HBE.out.size g3 (fun k hk => (HOW.out.block k hk).1))
            have HO3 := Lib.hid o3; clear g3 o3 c0 c1 c2 c3
            go_wp2_with fail
            go_roundw
            case rel => exact ⟨m + 1, by omega, by go_num, by rw [HTS.out]; exact HO3.out, HAT3.out, HBE3.out⟩
            case measure => simp [intOf]; omega
          · have hmk : m = xn.size := by omega
            subst hmk
            have hcat : h5 ++ (nums xn).take xn.size = tabToN t (k + 1) := by
              rw [HSU.out, List.take_of_length_le (by rw [HNL.out]; exact Nat.le_refl _), HH5.out]
              unfold ndBytes
              rw [HFL.out, ← List.append_assoc]
            rw [hcat] at ho
            have HO2 := Lib.hid ho; have HBE := Lib.hid hb; clear hcat ho hb ha
            go_wp2_with fail
            go_roundw
            case rel => exact ⟨k + 1, by omega, by go_num, HO2.out, HBE.out⟩
            case measure => simp [intOf]; omega
      · have hflag : flag10 true = 1 := rfl
        have HFL := Lib.hid hflag; clear hflag
        go_upto_region 6 with fail
        clear h0 h1 h2 h3
        generalize hbx : wr.heap.size = bx at HAT HOW hw0 ⊢
        generalize wr.alloc (.cells #[.int .i64 xi, .string xn, .int .i64 xf, .bool true] 59) = w1 at HAT HOW HBE hw0 ⊢
        obtain ⟨c0, c1, c2, c3⟩ := HAT.out.in_
        have bbx := fun X => (Below.refl w1.heap.size w1).alloc (Nat.le_refl _) X
        have HBBX := Lib.hid bbx; clear bbx hbx
        have hneX := HOW.out.ne_nd HAT.out (by decide)
        have HNE := Lib.hid hneX; clear hneX
        go_wp2_with (at_builtin; refine app_list _ rfl (.tmp 23) (.tmp 36) rfl w.heap.size Try.underlying26 info64 _ hd rfl (HOW.out.below (HBBX.out _)) _ 5 _ [xi, xf / 256, xf % 256, 1, (xn.size : Int)] rfl (rd_five _ _ _ _ _ _ _) (by have := HLE.out; omega) (Nat.le_trans HBE.out.size (HBBX.out _).size) ?_; intro v1 w2 o1 g1)
        have HAT2 := Lib.hid ((HAT.out.below (HBBX.out _) hw0).grown g1 HNE.out)
        have HBE2 := Lib.hid (below_app HBE.out HBE.out.size g1 (fun k hk => (HOW.out.block k hk).1))
        clear g1 c0 c1 c2 c3 HAT HOW HBE HBBX HNE hw0
        have hd5l : (hd ++ [xi, xf / 256, xf % 256, 1, (xn.size : Int)]).length = hd.length + 5 := by simp
        obtain ⟨h5, hh5⟩ : ∃ h5, h5 = hd ++ [xi, xf / 256, xf % 256, 1, (xn.size : Int)] := ⟨_, rfl⟩
        rw [← hh5] at o1 hd5l
        have HH5 := Lib.hid hh5; have HL5 := Lib.hid hd5l; clear hh5 hd5l
        have hnl := nums_len xn
        have HNL := Lib.hid hnl; clear hnl
        have o1' : Own 2 w2 w.heap.size v1 (h5 ++ (nums xn).take 0) := by rw [List.take_zero, List.append_nil]; exact o1
        clear o1

        go_loopw [3, 7] (fun o i wq => ∃ m : Nat, m ≤ xn.size ∧ i = .int .i64 m ∧ Own 2 wq w.heap.size o (h5 ++ (nums xn).take m) ∧ NdAt 59 wq bx ⟨xi, xn, xf, true⟩ ∧ Below w.heap.size w wq) (fun _ i _ => xn.size - (intOf i).toNat)
        case atStart => exact ⟨0, Nat.zero_le _, rfl, o1', HAT2.out, HBE2.out⟩
        case round =>
          clear o1' HAT2 HBE2
          obtain ⟨m, hm, rfl, ho, ha, hb⟩ := hrel
          obtain ⟨c0, c1, c2, c3⟩ := ha.in_
          by_cases hmk : m < xn.size
          · have hng := nums_getD xn m hmk
            have hkn : m < (nums xn).length := by rw [HNL.out]; exact hmk
            have hts : h5 ++ (nums xn).take (m + 1) = (h5 ++ (nums xn).take m) ++ [(nums xn).getD m 0] := by rw [take_succ' _ _ hkn, List.append_assoc]
            have hll : (h5 ++ (nums xn).take m).length ≤ 1000000 := by rw [List.length_append, List.length_take, HL5.out, HNL.out]; have := HLE.out; omega
            have hub : ((xn[m]'hmk).toNat : Int) < 256 := by have := (xn[m]'hmk).toNat_lt; omega
            have hlb : 0 ≤ ((xn[m]'hmk).toNat : Int) := by omega
            obtain ⟨c, hc⟩ : ∃ c : Int, ((xn[m]'hmk).toNat : Int) = c := ⟨_, rfl⟩
            rw [hc] at hub hlb hng
            rw [hng] at hts
            obtain ⟨pre, hpre⟩ : ∃ pre, pre = h5 ++ (nums xn).take m := ⟨_, rfl⟩
            rw [← hpre] at hts hll ho
            have hwc : IntKind.i64.wrap c = c := by rw [IntKind.wrap_i64]; omega
            have HTS := Lib.hid hts; have HOW := Lib.hid ho; have HAT := Lib.hid ha; have HBE := Lib.hid hb
            clear hng hkn hts ho ha hb hpre
            have hbx0 : bx < wr.heap.size := HAT.out.lt
            have bbx := fun X => (Below.refl wr.heap.size wr).alloc (Nat.le_refl _) X
            have HBBX := Lib.hid bbx; clear bbx
            have hneX := HOW.out.ne_nd HAT.out (by decide)
            have HNE := Lib.hid hneX; clear hneX
            go_wp2_with (at_builtin; refine app_list _ rfl (.tmp 45) (.tmp 51) rfl w.heap.size Try.underlying26 info64 _ pre rfl (HOW.out.below (HBBX.out _)) _ 1 _ [c] rfl (rd_one _ _ _) (by omega) (Nat.le_trans HBE.out.size (HBBX.out _).size) ?_; intro v3 w3 o3 g3)
            have HAT3 := Lib.hid ((HAT.out.below (HBBX.out _) hbx0).grown g3 HNE.out)
            have HBE3 := Lib.hid (below_app HBE.out HBE.out.size g3 (fun k hk => (HOW.out.block k hk).1))
            have HO3 := Lib.hid o3; clear g3 o3 c0 c1 c2 c3
            go_wp2_with fail
            go_roundw
            case rel => exact ⟨m + 1, by omega, by go_num, by rw [HTS.out]; exact HO3.out, HAT3.out, HBE3.out⟩
            case measure => simp [intOf]; omega
          · have hmk : m = xn.size := by omega
            subst hmk
            have hcat : h5 ++ (nums xn).take xn.size = tabToN t (k + 1) := by
              rw [HSU.out, List.take_of_length_le (by rw [HNL.out]; exact Nat.le_refl _), HH5.out]
              unfold ndBytes
              rw [HFL.out, ← List.append_assoc]
            rw [hcat] at ho
            have HO2 := Lib.hid ho; have HBE := Lib.hid hb; clear hcat ho hb ha
            go_wp2_with fail
            go_roundw
            case rel => exact ⟨k + 1, by omega, by go_num, HO2.out, HBE.out⟩
            case measure => simp [intOf]; omega
    · have hkn : k = n := by omega
      subst hkn
      have HO := Lib.hid hown; have HB := Lib.hid hb; clear hown hb
      go_wp2_with fail
      go_ret
      exact ⟨_, rfl, by have h := HO.out; rw [← HL.out, tabToN_all] at h; exact h, HB.out⟩
end Go.Proofs.Ytpedlofckbplmaa
