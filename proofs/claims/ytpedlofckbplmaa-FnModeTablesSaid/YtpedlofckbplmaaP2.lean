/-
  Chapter 11: the laws' marks on modes: laid, and found again; laws.likeModes.
-/
import Derived.Test.YtpedlofckbplmaaP1
import Derived.Test.YtpedlofckbplmaaDrawA
namespace Go.Proofs.Ytpedlofckbplmaa
open Go.RowKit

def mkM (q : Int) (c : Mc) : Mc := ⟨⟨q, q + 1, marks (q + 2) c.md.next.length⟩, c.ao, c.cap⟩
def markMs : Int → List Mc → List Mc
  | _, [] => []
  | q, c :: r => mkM q c :: markMs (q + ((2 + c.md.next.length : Nat) : Int)) r
theorem markMs_len : ∀ (q : Int) (cs : List Mc), (markMs q cs).length = cs.length
  | _, [] => rfl
  | q, c :: r => by rw [markMs, List.length_cons, markMs_len _ r, List.length_cons]
theorem mTot_append (a b : List Md) : mTot (a ++ b) = mTot a + mTot b := by
  induction a with
  | nil => simp [mTot]
  | cons x r ih => rw [List.cons_append, mTot, mTot, ih]; omega
theorem mTot_take {cs : List Mc} {k : Nat} (hk : k < cs.length) : mTot (mds (cs.take (k + 1))) = mTot (mds (cs.take k)) + (2 + (mcOf cs k).md.next.length) := by
  rw [List.take_succ_eq_append_getElem hk]
  unfold mds
  rw [List.map_append, mTot_append, List.map_singleton, mTot, mTot, mcOf_get hk]
  omega
theorem mTot_le {cs : List Mc} (k : Nat) : mTot (mds (cs.take k)) ≤ mTot (mds cs) := by
  conv => rhs; rw [← List.take_append_drop k cs]
  unfold mds
  rw [List.map_append, mTot_append]
  omega
theorem mTot_mem {cs : List Mc} {c : Mc} (h : c ∈ cs) : c.md.next.length ≤ mTot (mds cs) := by
  induction cs with
  | nil => cases h
  | cons a r ih =>
    show _ ≤ mTot (a.md :: mds r)
    rw [mTot]
    rcases List.mem_cons.1 h with rfl | h
    · omega
    · have := ih h; omega
theorem markMs_snoc : ∀ (ds : List Mc) (q : Int) (c : Mc), markMs q (ds ++ [c]) = markMs q ds ++ [mkM (q + (mTot (mds ds) : Int)) c]
  | [], q, c => by simp [markMs, mds, mTot]
  | a :: r, q, c => by
    rw [List.cons_append, markMs, markMs_snoc r, markMs, List.cons_append]
    show _ = mkM q a :: (_ ++ [mkM (q + ((mTot (a.md :: mds r) : Nat) : Int)) c])
    rw [mTot, show q + ((2 + a.md.next.length : Nat) : Int) + (mTot (mds r) : Int) = q + ((2 + a.md.next.length + mTot (mds r) : Nat) : Int) from by omega]
def markToM (q : Int) (cs : List Mc) (k : Nat) : List Mc := markMs q (cs.take k) ++ cs.drop k
theorem markToM_zero (q : Int) (cs : List Mc) : markToM q cs 0 = cs := by simp [markToM, markMs]
theorem markToM_all (q : Int) (cs : List Mc) : markToM q cs cs.length = markMs q cs := by simp [markToM]
theorem markToM_now {q : Int} {cs : List Mc} {k : Nat} (hk : k < cs.length) : markToM q cs k = markMs q (cs.take k) ++ mcOf cs k :: cs.drop (k + 1) := by
  unfold markToM; rw [List.drop_eq_getElem_cons hk, mcOf_get hk]
theorem markToM_next {q : Int} {cs : List Mc} {k : Nat} (hk : k < cs.length) : markToM q cs (k + 1) = markMs q (cs.take k) ++ mkM (q + (mTot (mds (cs.take k)) : Int)) (mcOf cs k) :: cs.drop (k + 1) := by
  unfold markToM
  rw [List.take_succ_eq_append_getElem hk, markMs_snoc, List.append_assoc, mcOf_get hk]
  rfl
theorem markMs_at {q : Int} {cs : List Mc} {k : Nat} (hk : k < cs.length) : mcOf (markMs q cs) k = mkM (q + (mTot (mds (cs.take k)) : Int)) (mcOf cs k) := by
  have h : markMs q cs = markMs q (cs.take (k + 1)) ++ markMs (q + (mTot (mds (cs.take (k + 1))) : Int)) (cs.drop (k + 1)) := by
    have hg : ∀ (a b : List Mc) (q : Int), markMs q (a ++ b) = markMs q a ++ markMs (q + (mTot (mds a) : Int)) b := by
      intro a
      induction a with
      | nil => intro b q; simp [markMs, mds, mTot]
      | cons x r ih =>
        intro b q
        rw [List.cons_append, markMs, ih, markMs, List.cons_append]
        show _ = _ :: (_ ++ markMs (q + ((mTot (x.md :: mds r) : Nat) : Int)) b)
        rw [mTot, show q + ((2 + x.md.next.length : Nat) : Int) + (mTot (mds r) : Int) = q + ((2 + x.md.next.length + mTot (mds r) : Nat) : Int) from by omega]
    rw [← hg, List.take_append_drop]
  rw [h, List.take_succ_eq_append_getElem hk, markMs_snoc, mcOf_get hk]
  have hl : (markMs q (cs.take k)).length = k := by rw [markMs_len, List.length_take]; omega
  unfold mcOf
  rw [List.getD_eq_getElem?_getD, List.append_assoc, List.getElem?_append_right (by omega), hl, Nat.sub_self]
  rfl

/-! ### one entry of a table among slices -/
section
variable {w0 w w' : World} {L1 L2 : List It} {E EI g n cap : Nat} {v : Value} {ms es : List Mc} {c : Mc}
theorem mcOf_mid (ms es : List Mc) (c : Mc) : mcOf (ms ++ c :: es) ms.length = c := by
  unfold mcOf
  rw [List.getD_eq_getElem?_getD, List.getElem?_append_right (Nat.le_refl _), Nat.sub_self]
  rfl
theorem Hold.fieldM (h : Hold w0 w (L1 ++ (mis E EI (.slice (some ⟨g, 0, none⟩) n cap) (ms ++ c :: es) ++ L2))) (hl : (ms ++ c :: es).length = n) {k : Nat} (hk : ms.length = k) {j : Nat} (hj : j < 3) {u : Value} {y : Mc} (e : mcCells y = (mcCells c).set j u) (hv : y.v = c.v) (hx : y.md.next = c.md.next) :
    McIn w g (k * 3) c ∧ w.frozen? ⟨g, k * 3 + j, none⟩ = false ∧ Hold w0 (w.setCell ⟨g, k * 3 + j, none⟩ u) (L1 ++ (mis E EI (.slice (some ⟨g, 0, none⟩) n cap) (ms ++ y :: es) ++ L2)) := by
  have hr := h.getM.row
  rw [hl] at hr
  have hkn : k < n := by rw [← hl, List.length_append, List.length_cons]; omega
  have hin := rowM_in hr hl hkn
  have hmid := mcOf_mid ms es c
  rw [hk] at hmid
  rw [hmid] at hin
  obtain ⟨f, o⟩ := rowM_field hr hl hkn hj (y := y) (u := u) (by rw [hmid]; exact e)
  refine ⟨hin, f, ?_⟩
  have hs : (ms ++ c :: es).set k y = ms ++ y :: es := by rw [List.set_append_right _ _ (by omega), hk, Nat.sub_self, List.set_cons_zero]
  rw [hs] at o
  have hn2 : nxs EI (ms ++ c :: es) = nxs EI (ms ++ y :: es) := by simp [nxs, hv, hx]
  have hl2 : (ms ++ y :: es).length = n := by rw [← hl]; simp
  have h2 : Hold w0 w (L1 ++ mrow E (.slice (some ⟨g, 0, none⟩) n cap) (ms ++ c :: es) :: (nxs EI (ms ++ c :: es) ++ L2)) := h
  have h3 := Hold.mark (p := mrow E (.slice (some ⟨g, 0, none⟩) n cap) (ms ++ c :: es)) (q := mrow E (.slice (some ⟨g, 0, none⟩) n cap) (ms ++ y :: es)) L1 h2 rfl (by unfold mrow; dsimp only; rw [hl2]; exact o) (grown_set' w g (k * 3 + j) u)
  rw [hn2] at h3
  exact h3
theorem Hold.nextM (h : Hold w0 w (L1 ++ (mis E EI v (ms ++ c :: es) ++ L2))) : Own EI w w0.heap.size c.v c.md.next := h.getM.nx c (by simp)
theorem Hold.markM {xs : List Int} {y : Mc} (h : Hold w0 w (L1 ++ (mis E EI v (ms ++ c :: es) ++ L2))) (hv : y.v = c.v) (hc : mcCells y = mcCells c) (o : Own EI w' w0.heap.size c.v xs) (hx : y.md.next = xs) (hg : w.grownBy w' c.v.ownBlock) :
    Hold w0 w' (L1 ++ (mis E EI v (ms ++ y :: es) ++ L2)) := by
  subst hx
  have e1 : mrow E v (ms ++ c :: es) = mrow E v (ms ++ y :: es) := by simp [mrow, hc]
  have e2 : ∀ z : Mc, L1 ++ (mis E EI v (ms ++ z :: es) ++ L2) = (L1 ++ mrow E v (ms ++ z :: es) :: nxs EI ms) ++ ints EI z.v z.md.next :: (nxs EI es ++ L2) := fun z => by simp [mis, nxs]
  rw [e2] at h ⊢
  rw [e1] at h
  refine Hold.mark (p := ints EI c.v c.md.next) (q := ints EI y.v y.md.next) _ h hv ?_ hg
  rw [hv]
  exact o
end
set_option maxHeartbeats 2000000 in
set_option maxRecDepth 100000 in
/-- laws.markModeInfoS of a table among slices of the call's own. -/
theorem markModes_row (g n cap : Nat) (cs : List Mc) (L1 L2 : List It) (q : Nat) (w0 w : World) (hl : cs.length = n) (h : Hold w0 w (L1 ++ (mis 78 2 (.slice (some ⟨g, 0, none⟩) n cap) cs ++ L2))) (ht : mTot (mds cs) ≤ 4194304) (hn : n ≤ 1048576) (hq1 : q ≤ 16777216) :
    Calls Try.prog 36 #[.slice (some ⟨g, 0, none⟩) n cap, .int .i64 q] w fun e w' => e = .returned (.int .i64 ((q + mTot (mds cs) : Nat) : Int)) ∧ Hold w0 w' (L1 ++ (mis 78 2 (.slice (some ⟨g, 0, none⟩) n cap) (markMs q cs) ++ L2)) := by
  have HL := Lib.hid hl
  have HT := Lib.hid ht
  have HH := Lib.hid (show Hold w0 w (L1 ++ (mis 78 2 (.slice (some ⟨g, 0, none⟩) n cap) (markToM q cs 0) ++ L2)) by rw [markToM_zero]; exact h)
  clear h hl ht
  go_enter Try.func36, Try.ntmps36
  go_wp2_with fail
  go_loopw [1, 5] (fun v i wr => ∃ k : Nat, k ≤ n ∧ i = .int .i64 k ∧ v = .int .i64 ((q + mTot (mds (cs.take k)) : Nat) : Int) ∧ Hold w0 wr (L1 ++ (mis 78 2 (.slice (some ⟨g, 0, none⟩) n cap) (markToM q cs k) ++ L2))) (fun _ i _ => n - (intOf i).toNat)
  case atStart => exact ⟨0, Nat.zero_le _, rfl, by simp [mds, mTot], HH.out⟩
  case round =>
    clear HH
    obtain ⟨k, hk, rfl, rfl, hh⟩ := hrel
    by_cases hlt : k < n
    · have hkt : k < cs.length := by rw [HL.out]; exact hlt
      have hmk := markToM_next (q := (q : Int)) hkt
      have htk := mTot_take hkt
      have hle := mTot_le (cs := cs) (k + 1)
      have hT := HT.out
      have hLL := HL.out
      rw [markToM_now hkt] at hh
      have hml : (markMs (q : Int) (cs.take k)).length = k := by rw [markMs_len, List.length_take]; omega
      have hll : (markMs (q : Int) (cs.take k) ++ mcOf cs k :: cs.drop (k + 1)).length = n := by rw [List.length_append, hml, List.length_cons, List.length_drop]; omega
      obtain ⟨K, hK⟩ : ∃ K : Nat, K = q + mTot (mds (cs.take k)) := ⟨_, rfl⟩
      rw [show (q : Int) + (mTot (mds (cs.take k)) : Int) = (K : Int) from by omega] at hmk
      rw [← hK]
      have hnx : q + mTot (mds (cs.take (k + 1))) = K + 2 + (mcOf cs k).md.next.length := by omega
      have hK1 : K ≤ 33554432 := by omega
      have hnl : (mcOf cs k).md.next.length ≤ 4194304 := by omega
      generalize hms : markMs (q : Int) (cs.take k) = ms at hh hmk hml hll
      generalize hes : cs.drop (k + 1) = es at hh hmk hll
      generalize hcc : mcOf cs k = c at hh hmk hll hnx hnl
      have HNX := Lib.hid hnx; have HMK := Lib.hid hmk
      clear htk hle hT hLL hms hes hcc hnx hmk hK hkt
      obtain ⟨⟨r, s, xs⟩, ao, cp⟩ := c
      dsimp only at hnl HNX
      obtain ⟨d, f0, h1⟩ := hh.fieldM hll hml (j := 0) (u := .int .i64 (K : Int)) (y := ⟨⟨(K : Int), s, xs⟩, ao, cp⟩) (by omega) rfl rfl rfl
      have hll1 : (ms ++ (⟨⟨(K : Int), s, xs⟩, ao, cp⟩ : Mc) :: es).length = n := by rw [← hll]; simp
      obtain ⟨d', f1, h2⟩ := h1.fieldM hll1 hml (j := 1) (u := .int .i64 ((K : Int) + 1)) (y := ⟨⟨(K : Int), (K : Int) + 1, xs⟩, ao, cp⟩) (by omega) rfl rfl rfl
      obtain ⟨d0, d1, d2⟩ := d
      have hll2 : (ms ++ (⟨⟨(K : Int), (K : Int) + 1, xs⟩, ao, cp⟩ : Mc) :: es).length = n := by rw [← hll]; simp
      obtain ⟨⟨-, -, e2⟩, -, -⟩ := h2.fieldM hll2 hml (j := 1) (u := .int .i64 ((K : Int) + 1)) (y := ⟨⟨(K : Int), (K : Int) + 1, xs⟩, ao, cp⟩) (by omega) rfl rfl rfl
      have hcall := mark_own ao xs.length cp w0.heap.size xs ((K : Int) + 1 + 1) _ rfl h2.nextM (by omega) (by omega) (by omega)
      have HCALL := Lib.hid hcall; have H2 := Lib.hid h2
      have HNEXT := Lib.hid (show ((q + mTot (mds (cs.take (k + 1))) : Nat) : Int) = (K : Int) + 1 + 1 + (xs.length : Int) by rw [HNX.out]; omega)
      clear hcall h2 h1 hh hll hll1 hll2 d' hml HNX
      simp only [Nat.add_zero] at f0 HCALL H2 e2 f1
      go_wp2_with fail
      refine HCALL.out.mono ?_
      rintro e w2 ⟨rfl, o2, g2⟩
      have hfin := H2.out.markM (y := mkM (K : Int) ⟨⟨r, s, xs⟩, ao, cp⟩) (by simp [Mc.v, mkM, marks_len]) (by simp [mcCells, mkM, marks_len]) o2 (by unfold mkM; dsimp only; rw [show (K : Int) + 2 = (K : Int) + 1 + 1 from by omega]) g2
      rw [← HMK.out] at hfin
      have HF := Lib.hid hfin
      clear hfin o2 g2 HCALL H2 HMK d0 d1 d2 e2 f0 f1
      go_wp2_with fail
      go_roundw
      case rel => exact ⟨k + 1, by omega, by go_num, by rw [HNEXT.out], HF.out⟩
      case measure => simp [intOf]; omega
    · have hkn : k = n := by omega
      subst hkn
      have HOO := Lib.hid hh; clear hh
      go_wp2_with fail
      go_ret
      have h := HOO.out
      rw [← HL.out, markToM_all, HL.out] at h
      refine ⟨?_, h⟩
      rw [← HL.out, List.take_length]
      rfl
/-- laws.markModeInfoS of a table of the call's own, a nil one too. -/
theorem markModes_any (ao : Option Addr) (n cap : Nat) (cs : List Mc) (L1 L2 : List It) (q : Nat) (w0 w : World) (hl : cs.length = n) (h : Hold w0 w (L1 ++ (mis 78 2 (.slice ao n cap) cs ++ L2))) (ht : mTot (mds cs) ≤ 4194304) (hn : n ≤ 1048576) (hq1 : q ≤ 16777216) :
    Calls Try.prog 36 #[.slice ao n cap, .int .i64 q] w fun e w' => e = .returned (.int .i64 ((q + mTot (mds cs) : Nat) : Int)) ∧ Hold w0 w' (L1 ++ (mis 78 2 (.slice ao n cap) (markMs q cs) ++ L2)) := by
  obtain ⟨ao', cap', e, -, -, -, hcase⟩ := h.getM.form
  rw [hl] at e
  cases e
  rcases hcase with hnil | ⟨g, rfl, -, -⟩
  · simp only [Value.slice.injEq] at hnil
    obtain ⟨rfl, rfl, rfl⟩ := hnil
    have hc : cs = [] := List.length_eq_zero_iff.1 hl
    subst hc
    have HH := Lib.hid h; clear h
    go_enter Try.func36, Try.ntmps36
    go_wp2
    refine wp_loop_rounds 1 ?_
    rw [rounds_succ]
    go_wp2
    go_ret
    exact ⟨ret_int (by simp [mds, mTot]), HH.out⟩
  · exact markModes_row g n cap cs L1 L2 q w0 w hl h ht hn hq1
set_option maxHeartbeats 2000000 in
set_option maxRecDepth 100000 in
/-- laws.heldModeInfoS of marks. -/
theorem heldModes_yes (ao : Option Addr) (n cap : Nat) (cs : List Mc) (q : Nat) (w : World) (hl : cs.length = n) (hr : RdM w ao n (markMs q cs)) (ht : mTot (mds cs) ≤ 4194304) (hn : n ≤ 1048576) (hq1 : q ≤ 16777216) :
    Calls Try.prog 37 #[.slice ao n cap, .int .i64 q] w fun e w' => e = .returned (.int .i64 ((q + mTot (mds cs) : Nat) : Int)) ∧ w = w' := by
  have HL := Lib.hid hl; have HT := Lib.hid ht
  have HR := Lib.hid hr; clear hr hl ht
  go_enter Try.func37, Try.ntmps37
  go_wp2_with fail
  go_loopw [1, 5] (fun v i wr => ∃ k : Nat, k ≤ n ∧ i = .int .i64 k ∧ v = .int .i64 ((q + mTot (mds (cs.take k)) : Nat) : Int) ∧ wr = w) (fun _ i _ => n - (intOf i).toNat)
  case atStart => exact ⟨0, Nat.zero_le _, rfl, by simp [mds, mTot], rfl⟩
  case round =>
    obtain ⟨k, hk, rfl, rfl, rfl⟩ := hrel
    by_cases hlt : k < n
    · have hkt : k < cs.length := by rw [HL.out]; exact hlt
      obtain ⟨g, off, rfl, hg, hx, hrd⟩ := HR.out.at hlt
      have htk := mTot_take hkt
      have hle := mTot_le (cs := cs) (k + 1)
      have hT := HT.out
      rw [markMs_at hkt] at hx hrd
      obtain ⟨K, hK⟩ : ∃ K : Nat, K = q + mTot (mds (cs.take k)) := ⟨_, rfl⟩
      rw [show (q : Int) + (mTot (mds (cs.take k)) : Int) = (K : Int) from by omega] at hx hrd
      rw [← hK]
      have hK1 : K ≤ 33554432 := by omega
      have hnl : (mcOf cs k).md.next.length ≤ 4194304 := by omega
      have HNEXT := Lib.hid (show ((q + mTot (mds (cs.take (k + 1))) : Nat) : Int) = (K : Int) + 1 + 1 + ((mcOf cs k).md.next.length : Int) by omega)
      generalize mcOf cs k = c at hx hrd hnl HNEXT
      clear htk hle hT hK hkt hg
      obtain ⟨⟨r, s, xs⟩, ao, cp⟩ := c
      unfold mkM at hx hrd
      dsimp only at hnl hx hrd HNEXT
      obtain ⟨h0, h1, h2⟩ := hx
      have hrr := hrd.rd
      clear hrd
      dsimp only at h0 h1 h2 hrr
      rw [marks_len] at h2 hrr
      rw [show (K : Int) + 2 = (K : Int) + 1 + 1 from by omega] at hrr
      have HCALL := Lib.hid (held_yes ao xs.length cp ((K : Int) + 1 + 1) wr hrr (by omega) (by omega) (by omega))
      clear hrr
      have n0 : ((K : Int) != (K : Int)) = false := by simp
      have n1 : ((K : Int) + 1 != (K : Int) + 1) = false := by simp
      have hng : ¬ (K : Int) + 1 + 1 + (xs.length : Int) < 0 := by omega
      go_wp2_with fail
      refine HCALL.out.mono ?_
      rintro e w2 ⟨rfl, rfl⟩
      clear h0 h1 h2 n0 n1
      go_wp2_with fail
      go_roundw
      case rel => exact ⟨k + 1, by omega, by go_num, by rw [HNEXT.out], trivial⟩
      case measure => simp [intOf]; omega
    · have hkn : k = n := by omega
      subst hkn
      go_wp2_with fail
      go_ret
      refine ⟨?_, rfl⟩
      rw [← HL.out, List.take_length]
      rfl
set_option maxHeartbeats 4000000 in
set_option maxRecDepth 100000 in
set_option linter.unusedSimpArgs false in
/-- laws.likeModes of one table read twice. -/
theorem likeModes_yes (ao bo : Option Addr) (n c d : Nat) (cs ds : List Mc) (w : World) (hx : RdM w ao n cs) (hy : RdM w bo n ds) (he : mds cs = mds ds) (hn : n ≤ 9223372036854775807) :
    Calls Try.prog 32 #[.slice ao n c, .slice bo n d] w fun e w' => e = .returned (.bool true) ∧ Below w.heap.size w w' := by
  have HX := Lib.hid hx; have HY := Lib.hid hy; have HE := Lib.hid he; clear hx hy he
  have hne : ((n : Int) != (n : Int)) = false := by simp
  go_enter Try.func32, Try.ntmps32
  go_wp2_with fail
  clear hne
  go_loopw [5] (fun i wr => ∃ k : Nat, k ≤ n ∧ i = .int .i64 k ∧ Below w.heap.size w wr) (fun i _ => n - (intOf i).toNat)
  case atStart => exact ⟨0, Nat.zero_le _, rfl, Below.refl _ _⟩
  case round =>
    obtain ⟨k, hk, rfl, hb⟩ := hrel
    by_cases hlt : k < n
    · obtain ⟨g, off, rfl, hg, hx, hxr⟩ := HX.out.at hlt
      obtain ⟨g', off', rfl, hg', hy, hyr⟩ := HY.out.at hlt
      replace hx := hx.below hb hg
      replace hy := hy.below hb hg'
      replace hxr := hxr.below hb
      replace hyr := hyr.below hb
      have hmd : (mcOf cs k).md = (mcOf ds k).md := by rw [← mdOf_mds, ← mdOf_mds, HE.out]
      have HB := Lib.hid hb; clear hb
      generalize mcOf cs k = x at hx hxr hmd
      generalize mcOf ds k = y at hy hyr hmd
      have HGX := Lib.hid hg; have HGY := Lib.hid hg'
      obtain ⟨⟨x0, x1, xs⟩, xo, xc⟩ := x
      obtain ⟨⟨y0, y1, ys⟩, yo, yc⟩ := y
      cases hmd
      have HCALL := Lib.hid (fun W (hW : Below wr.heap.size wr W) => like_yes xo yo xs.length xs.length xc yc xs W (hxr.rd.below hW) (hyr.rd.below hW) (by have := hxr.le; have := hxr.cap; dsimp only at *; omega))
      have HXX := Lib.hid hx; have HYY := Lib.hid hy
      clear hx hy hg hg' hxr hyr
      have n0 : (x0 != x0) = false := by simp
      have n1 : (x1 != x1) = false := by simp
      go_upto_region 6 with fail
      refine wp_region_held_drew (S := fun w' => w'.cell? ⟨g, off + k * 3, none⟩ = some (.int .i64 x0) ∧ w'.cell? ⟨g, off + k * 3 + 1, none⟩ = some (.int .i64 x1) ∧ w'.cell? ⟨g, off + k * 3 + 2, none⟩ = some (.slice xo xs.length xc) ∧ w'.cell? ⟨g', off' + k * 3, none⟩ = some (.int .i64 x0) ∧ w'.cell? ⟨g', off' + k * 3 + 1, none⟩ = some (.int .i64 x1) ∧ w'.cell? ⟨g', off' + k * 3 + 2, none⟩ = some (.slice yo xs.length yc)) (by kernel_rfl) (⟨HXX.out.c0, HXX.out.c1, HXX.out.c2, HYY.out.c0, HYY.out.c1, HYY.out.c2⟩) (fun hHeld => ?_)
      refine wpAnyH_take (i := 0) (v := ?_) rfl (by kernel_rfl) (by kernel_rfl) (by kernel_rfl) (fun _ _ _ h => h) (Or.inl ⟨by rfl, ?_⟩) (by assumption) ?_
      rotate_left
      · (intro w hSw; (try dsimp only at hSw); go_simp; (try with_reducible rfl))
      try simp only [List.getElem_toArray, List.getElem_cons_succ, List.getElem_cons_zero, Act.put, List.setIfInBounds_toArray, List.set_cons_zero, List.set_cons_succ]
      refine wpAnyH_take (i := 1) (v := ?_) rfl (by kernel_rfl) (by kernel_rfl) (by kernel_rfl) (fun _ _ _ h => h) (Or.inl ⟨by rfl, ?_⟩) (by assumption) ?_
      rotate_left
      · (intro w hSw; (try dsimp only at hSw); go_simp; (try with_reducible rfl))
      try simp only [List.getElem_toArray, List.getElem_cons_succ, List.getElem_cons_zero, Act.put, List.setIfInBounds_toArray, List.set_cons_zero, List.set_cons_succ]
      refine wpAnyH_take (i := 2) (v := ?_) rfl (by kernel_rfl) (by kernel_rfl) (by kernel_rfl) (fun _ _ _ h => h) (Or.inl ⟨by rfl, ?_⟩) (by assumption) ?_
      rotate_left
      · (intro w hSw; (try dsimp only at hSw); go_simp; (try with_reducible rfl))
      try simp only [List.getElem_toArray, List.getElem_cons_succ, List.getElem_cons_zero, Act.put, List.setIfInBounds_toArray, List.set_cons_zero, List.set_cons_succ]
      refine wpAnyH_take (i := 3) (v := ?_) rfl (by kernel_rfl) (by kernel_rfl) (by kernel_rfl) (fun _ _ _ h => h) (Or.inl ⟨by rfl, ?_⟩) (by assumption) ?_
      rotate_left
      · (intro w hSw; (try dsimp only at hSw); go_simp; (try with_reducible rfl))
      try simp only [List.getElem_toArray, List.getElem_cons_succ, List.getElem_cons_zero, Act.put, List.setIfInBounds_toArray, List.set_cons_zero, List.set_cons_succ]
      refine wpAnyH_take (i := 4) (v := ?_) rfl (by kernel_rfl) (by kernel_rfl) (by kernel_rfl) (fun _ _ _ h => h) (Or.inl ⟨by rfl, ?_⟩) (by assumption) ?_
      rotate_left
      · (intro w hSw; (try dsimp only at hSw); go_simp; (try with_reducible rfl))
      try simp only [List.getElem_toArray, List.getElem_cons_succ, List.getElem_cons_zero, Act.put, List.setIfInBounds_toArray, List.set_cons_zero, List.set_cons_succ]
      refine wpAnyH_take (i := 5) (v := ?_) rfl (by kernel_rfl) (by kernel_rfl) (by kernel_rfl) (fun _ _ _ h => h) (Or.inl ⟨by rfl, ?_⟩) (by assumption) ?_
      rotate_left
      · (intro w hSw; (try dsimp only at hSw); go_simp; (try with_reducible rfl))
      try simp only [List.getElem_toArray, List.getElem_cons_succ, List.getElem_cons_zero, Act.put, List.setIfInBounds_toArray, List.set_cons_zero, List.set_cons_succ]
      refine wpAnyH_take (i := 6) (v := ?_) rfl (by kernel_rfl) (by kernel_rfl) (by kernel_rfl) (fun _ _ _ h => h) (Or.inl ⟨by rfl, ?_⟩) (by assumption) ?_
      rotate_left
      · (intro w hSw; (try dsimp only at hSw); go_simp; (try with_reducible rfl))
      try simp only [List.getElem_toArray, List.getElem_cons_succ, List.getElem_cons_zero, Act.put, List.setIfInBounds_toArray, List.set_cons_zero, List.set_cons_succ]
      refine wpAnyH_take (i := 7) (v := ?_) rfl (by kernel_rfl) (by kernel_rfl) (by kernel_rfl) (fun _ _ _ h => h) (Or.inl ⟨by rfl, ?_⟩) (by assumption) ?_
      rotate_left
      · (intro w hSw; (try dsimp only at hSw); go_simp; (try with_reducible rfl))
      try simp only [List.getElem_toArray, List.getElem_cons_succ, List.getElem_cons_zero, Act.put, List.setIfInBounds_toArray, List.set_cons_zero, List.set_cons_succ]
      refine wpAnyH_take (i := 8) (v := ?_) rfl (by kernel_rfl) (by kernel_rfl) (by kernel_rfl) (fun _ _ _ h => h) (Or.inl ⟨by rfl, ?_⟩) (by assumption) ?_
      rotate_left
      · (intro w hSw; (try dsimp only at hSw); go_simp; (try with_reducible rfl))
      try simp only [List.getElem_toArray, List.getElem_cons_succ, List.getElem_cons_zero, Act.put, List.setIfInBounds_toArray, List.set_cons_zero, List.set_cons_succ]
      refine wpAnyH_take (i := 9) (v := ?_) rfl (by kernel_rfl) (by kernel_rfl) (by kernel_rfl) (fun _ _ _ h => h) (Or.inl ⟨by rfl, ?_⟩) (by assumption) ?_
      rotate_left
      · (intro w hSw; (try dsimp only at hSw); go_simp; (try with_reducible rfl))
      try simp only [List.getElem_toArray, List.getElem_cons_succ, List.getElem_cons_zero, Act.put, List.setIfInBounds_toArray, List.set_cons_zero, List.set_cons_succ]
      refine wpAnyH_take (i := 10) (v := ?_) rfl (by kernel_rfl) (by kernel_rfl) (by kernel_rfl) (fun _ _ _ h => h) (Or.inl ⟨by rfl, ?_⟩) (by assumption) ?_
      rotate_left
      · (intro w hSw; (try dsimp only at hSw); go_simp; (try with_reducible rfl))
      try simp only [List.getElem_toArray, List.getElem_cons_succ, List.getElem_cons_zero, Act.put, List.setIfInBounds_toArray, List.set_cons_zero, List.set_cons_succ]
      refine wpAnyH_take (i := 11) (v := ?_) rfl (by kernel_rfl) (by kernel_rfl) (by kernel_rfl) (fun _ _ _ h => h) (Or.inl ⟨by rfl, ?_⟩) (by assumption) ?_
      rotate_left
      · (intro w hSw; (try dsimp only at hSw); go_simp; (try with_reducible rfl))
      try simp only [List.getElem_toArray, List.getElem_cons_succ, List.getElem_cons_zero, Act.put, List.setIfInBounds_toArray, List.set_cons_zero, List.set_cons_succ]
      refine wpAnyH_take (i := 12) (v := ?_) rfl (by kernel_rfl) (by kernel_rfl) (by kernel_rfl) (fun _ _ _ h => h) (Or.inl ⟨by rfl, ?_⟩) (by assumption) ?_
      rotate_left
      · (intro w hSw; (try dsimp only at hSw); go_simp; (try with_reducible rfl))
      try simp only [List.getElem_toArray, List.getElem_cons_succ, List.getElem_cons_zero, Act.put, List.setIfInBounds_toArray, List.set_cons_zero, List.set_cons_succ]
      refine wpAnyH_take (i := 13) (v := ?_) rfl (by kernel_rfl) (by kernel_rfl) (by kernel_rfl) (fun _ _ _ h => h) (Or.inl ⟨by rfl, ?_⟩) (by assumption) ?_
      rotate_left
      · (intro w hSw; (try dsimp only at hSw); go_simp; (try with_reducible rfl))
      try simp only [List.getElem_toArray, List.getElem_cons_succ, List.getElem_cons_zero, Act.put, List.setIfInBounds_toArray, List.set_cons_zero, List.set_cons_succ]
      refine wpAnyH_take (i := 14) (v := ?_) rfl (by kernel_rfl) (by kernel_rfl) (by kernel_rfl) (fun _ _ _ h => h) (Or.inl ⟨by rfl, ?_⟩) (by assumption) ?_
      rotate_left
      · (intro w hSw; (try dsimp only at hSw); go_simp; (try with_reducible rfl))
      try simp only [List.getElem_toArray, List.getElem_cons_succ, List.getElem_cons_zero, Act.put, List.setIfInBounds_toArray, List.set_cons_zero, List.set_cons_succ]
      refine wpAnyH_take (i := 15) (v := ?_) rfl (by kernel_rfl) (by kernel_rfl) (by kernel_rfl) (fun _ _ _ h => h) (Or.inl ⟨by rfl, ?_⟩) (by assumption) ?_
      rotate_left
      · (intro w hSw; (try dsimp only at hSw); go_simp; (try with_reducible rfl))
      try simp only [List.getElem_toArray, List.getElem_cons_succ, List.getElem_cons_zero, Act.put, List.setIfInBounds_toArray, List.set_cons_zero, List.set_cons_succ]
      refine wpAnyH_take (i := 16) (v := ?_) rfl (by kernel_rfl) (by kernel_rfl) (by kernel_rfl) (fun _ _ _ h => h) (Or.inl ⟨by rfl, ?_⟩) (by assumption) ?_
      rotate_left
      · (intro w hSw; (try dsimp only at hSw); go_simp; (try with_reducible rfl))
      try simp only [List.getElem_toArray, List.getElem_cons_succ, List.getElem_cons_zero, Act.put, List.setIfInBounds_toArray, List.set_cons_zero, List.set_cons_succ]
      refine wpAnyH_take (i := 17) (v := ?_) rfl (by kernel_rfl) (by kernel_rfl) (by kernel_rfl) (fun _ _ _ h => h) (Or.inl ⟨by rfl, ?_⟩) (by assumption) ?_
      rotate_left
      · (intro w hSw; (try dsimp only at hSw); go_simp; (try with_reducible rfl))
      try simp only [List.getElem_toArray, List.getElem_cons_succ, List.getElem_cons_zero, Act.put, List.setIfInBounds_toArray, List.set_cons_zero, List.set_cons_succ]
      refine wpAnyH_take (i := 18) (v := ?_) rfl (by kernel_rfl) (by kernel_rfl) (by kernel_rfl) (fun _ _ _ h => h) (Or.inl ⟨by rfl, ?_⟩) (by assumption) ?_
      rotate_left
      · (intro w hSw; (try dsimp only at hSw); go_simp; (try with_reducible rfl))
      try simp only [List.getElem_toArray, List.getElem_cons_succ, List.getElem_cons_zero, Act.put, List.setIfInBounds_toArray, List.set_cons_zero, List.set_cons_succ]
      refine wpAnyH_take (i := 19) (v := ?_) rfl (by kernel_rfl) (by kernel_rfl) (by kernel_rfl) (fun _ _ _ h => h) (Or.inl ⟨by rfl, ?_⟩) (by assumption) ?_
      rotate_left
      · (intro w hSw; (try dsimp only at hSw); go_simp; (try with_reducible rfl))
      try simp only [List.getElem_toArray, List.getElem_cons_succ, List.getElem_cons_zero, Act.put, List.setIfInBounds_toArray, List.set_cons_zero, List.set_cons_succ]
      refine wpAnyH_take (i := 20) (v := ?_) rfl (by kernel_rfl) (by kernel_rfl) (by kernel_rfl) (fun _ _ _ h => h) (Or.inl ⟨by rfl, ?_⟩) (by assumption) ?_
      rotate_left
      · (intro w hSw; (try dsimp only at hSw); go_simp; (try with_reducible rfl))
      try simp only [List.getElem_toArray, List.getElem_cons_succ, List.getElem_cons_zero, Act.put, List.setIfInBounds_toArray, List.set_cons_zero, List.set_cons_succ]
      refine wpAnyH_take (i := 21) (v := ?_) rfl (by kernel_rfl) (by kernel_rfl) (by kernel_rfl) (fun _ _ _ h => h) (Or.inl ⟨by rfl, ?_⟩) (by assumption) ?_
      rotate_left
      · (intro w hSw; (try dsimp only at hSw); go_simp; (try with_reducible rfl))
      try simp only [List.getElem_toArray, List.getElem_cons_succ, List.getElem_cons_zero, Act.put, List.setIfInBounds_toArray, List.set_cons_zero, List.set_cons_succ]
      refine wpAnyH_take (i := 22) (v := ?_) rfl (by kernel_rfl) (by kernel_rfl) (by kernel_rfl) (fun _ _ _ h => h) (Or.inl ⟨by rfl, ?_⟩) (by assumption) ?_
      rotate_left
      · (intro w hSw; (try dsimp only at hSw); go_simp; (try with_reducible rfl))
      try simp only [List.getElem_toArray, List.getElem_cons_succ, List.getElem_cons_zero, Act.put, List.setIfInBounds_toArray, List.set_cons_zero, List.set_cons_succ]
      refine wpAnyH_take (i := 23) (v := ?_) rfl (by kernel_rfl) (by kernel_rfl) (by kernel_rfl) (fun _ _ _ h => h) (Or.inl ⟨by rfl, ?_⟩) (by assumption) ?_
      rotate_left
      · (intro w hSw; (try dsimp only at hSw); go_simp; (try with_reducible rfl))
      try simp only [List.getElem_toArray, List.getElem_cons_succ, List.getElem_cons_zero, Act.put, List.setIfInBounds_toArray, List.set_cons_zero, List.set_cons_succ]
      refine wpAnyH_take (i := 24) (v := ?_) rfl (by kernel_rfl) (by kernel_rfl) (by kernel_rfl) (fun _ _ _ h => h) (Or.inl ⟨by rfl, ?_⟩) (by assumption) ?_
      rotate_left
      · (intro w hSw; (try dsimp only at hSw); go_simp; (try with_reducible rfl))
      try simp only [List.getElem_toArray, List.getElem_cons_succ, List.getElem_cons_zero, Act.put, List.setIfInBounds_toArray, List.set_cons_zero, List.set_cons_succ]
      refine wpAnyH_take (i := 25) (v := ?_) rfl (by kernel_rfl) (by kernel_rfl) (by kernel_rfl) (fun _ _ _ h => h) (Or.inl ⟨by rfl, ?_⟩) (by assumption) ?_
      rotate_left
      · (intro w hSw; (try dsimp only at hSw); go_simp; (try with_reducible rfl))
      try simp only [List.getElem_toArray, List.getElem_cons_succ, List.getElem_cons_zero, Act.put, List.setIfInBounds_toArray, List.set_cons_zero, List.set_cons_succ]
      refine wpAnyH_take (i := 26) (v := ?_) rfl (by kernel_rfl) (by kernel_rfl) (by kernel_rfl) (fun _ _ _ h => h) (Or.inl ⟨by rfl, ?_⟩) (by assumption) ?_
      rotate_left
      · (intro w hSw; (try dsimp only at hSw); go_simp; (try with_reducible rfl))
      try simp only [List.getElem_toArray, List.getElem_cons_succ, List.getElem_cons_zero, Act.put, List.setIfInBounds_toArray, List.set_cons_zero, List.set_cons_succ]
      refine wpAnyH_take (i := 27) (v := ?_) rfl (by kernel_rfl) (by kernel_rfl) (by kernel_rfl) (fun _ _ _ h => h) (Or.inl ⟨by rfl, ?_⟩) (by assumption) ?_
      rotate_left
      · (intro w hSw; (try dsimp only at hSw); go_simp; (try with_reducible rfl))
      try simp only [List.getElem_toArray, List.getElem_cons_succ, List.getElem_cons_zero, Act.put, List.setIfInBounds_toArray, List.set_cons_zero, List.set_cons_succ]
      refine wpAnyH_take (i := 28) (v := ?_) rfl (by kernel_rfl) (by kernel_rfl) (by kernel_rfl) (fun _ _ _ h => h) (Or.inl ⟨by rfl, ?_⟩) (by assumption) ?_
      rotate_left
      · (intro w hSw; (try dsimp only at hSw); go_simp; (try with_reducible rfl))
      try simp only [List.getElem_toArray, List.getElem_cons_succ, List.getElem_cons_zero, Act.put, List.setIfInBounds_toArray, List.set_cons_zero, List.set_cons_succ]
      refine wpAnyH_take (i := 29) (v := ?_) rfl (by kernel_rfl) (by kernel_rfl) (by kernel_rfl) (fun _ _ _ h => h) (Or.inl ⟨by rfl, ?_⟩) (by assumption) ?_
      rotate_left
      · (intro w hSw; (try dsimp only at hSw); go_simp; (try with_reducible rfl))
      try simp only [List.getElem_toArray, List.getElem_cons_succ, List.getElem_cons_zero, Act.put, List.setIfInBounds_toArray, List.set_cons_zero, List.set_cons_succ]
      refine wpAnyH_take (i := 30) (v := ?_) rfl (by kernel_rfl) (by kernel_rfl) (by kernel_rfl) (fun _ _ _ h => h) (Or.inl ⟨by rfl, ?_⟩) (by assumption) ?_
      rotate_left
      · (intro w hSw; (try dsimp only at hSw); go_simp; (try with_reducible rfl))
      try simp only [List.getElem_toArray, List.getElem_cons_succ, List.getElem_cons_zero, Act.put, List.setIfInBounds_toArray, List.set_cons_zero, List.set_cons_succ]
      refine wpAnyH_take (i := 31) (v := ?_) rfl (by kernel_rfl) (by kernel_rfl) (by kernel_rfl) (fun _ _ _ h => h) (Or.inl ⟨by rfl, ?_⟩) (by assumption) ?_
      rotate_left
      · (intro w hSw; (try dsimp only at hSw); go_simp; (try with_reducible rfl))
      try simp only [List.getElem_toArray, List.getElem_cons_succ, List.getElem_cons_zero, Act.put, List.setIfInBounds_toArray, List.set_cons_zero, List.set_cons_succ]
      refine wpAnyH_take (i := 32) (v := ?_) rfl (by kernel_rfl) (by kernel_rfl) (by kernel_rfl) (fun _ _ _ h => h) (Or.inl ⟨by rfl, ?_⟩) (by assumption) ?_
      rotate_left
      · (intro w hSw; (try dsimp only at hSw); go_simp; (try with_reducible rfl))
      try simp only [List.getElem_toArray, List.getElem_cons_succ, List.getElem_cons_zero, Act.put, List.setIfInBounds_toArray, List.set_cons_zero, List.set_cons_succ]
      refine wpAnyH_take (i := 33) (v := ?_) rfl (by kernel_rfl) (by kernel_rfl) (by kernel_rfl) (fun _ _ _ h => h) (Or.inl ⟨by rfl, ?_⟩) (by assumption) ?_
      rotate_left
      · (intro w hSw; (try dsimp only at hSw); go_simp; (try with_reducible rfl))
      try simp only [List.getElem_toArray, List.getElem_cons_succ, List.getElem_cons_zero, Act.put, List.setIfInBounds_toArray, List.set_cons_zero, List.set_cons_succ]
      refine wpAnyH_take (i := 34) (v := ?_) rfl (by kernel_rfl) (by kernel_rfl) (by kernel_rfl) (fun _ _ _ h => h) (Or.inl ⟨by rfl, ?_⟩) (by assumption) ?_
      rotate_left
      · (intro w hSw; (try dsimp only at hSw); go_simp; (try with_reducible rfl))
      try simp only [List.getElem_toArray, List.getElem_cons_succ, List.getElem_cons_zero, Act.put, List.setIfInBounds_toArray, List.set_cons_zero, List.set_cons_succ]
      refine wpAnyH_ready (rs := [35]) (by kernel_rfl) (by simp) (AllReadyH.cons rfl (fun K hK => ?_) AllReadyH.nil)
      go_simp
      refine (HCALL.out _ (Below.drew (Below.refl wr.heap.size wr))).mono ?_
      rintro e w2 ⟨rfl, b2⟩
      replace b2 := below_two (Below.drew (Below.refl wr.heap.size wr)) b2
      have HX2 := Lib.hid (HXX.out.below b2 (Nat.lt_of_lt_of_le HGX.out HB.out.size))
      have HY2 := Lib.hid (HYY.out.below b2 (Nat.lt_of_lt_of_le HGY.out HB.out.size))
      have HB2 := Lib.hid (below_two HB.out b2)
      clear b2
      go_wp2_with fail
      refine hK.out _ _ ?_ (fun hHeld => ?_)
      · exact ⟨HX2.out.c0, HX2.out.c1, HX2.out.c2, HY2.out.c0, HY2.out.c1, HY2.out.c2⟩
      clear hK K
      try simp only [List.getElem_toArray, List.getElem_cons_succ, List.getElem_cons_zero, Act.put, List.setIfInBounds_toArray, List.set_cons_zero, List.set_cons_succ]
      refine wpAnyH_take (i := 36) (v := ?_) rfl (by kernel_rfl) (by kernel_rfl) (by kernel_rfl) (fun _ _ _ h => h) (Or.inl ⟨by rfl, ?_⟩) (by assumption) ?_
      rotate_left
      · (intro w hSw; (try dsimp only at hSw); go_simp; (try with_reducible rfl))
      try simp only [List.getElem_toArray, List.getElem_cons_succ, List.getElem_cons_zero, Act.put, List.setIfInBounds_toArray, List.set_cons_zero, List.set_cons_succ]
      refine wpAnyH_take (i := 37) (v := ?_) rfl (by kernel_rfl) (by kernel_rfl) (by kernel_rfl) (fun _ _ _ h => h) (Or.inl ⟨by rfl, ?_⟩) (by assumption) ?_
      rotate_left
      · (intro w hSw; (try dsimp only at hSw); go_simp; (try with_reducible rfl))
      try simp only [List.getElem_toArray, List.getElem_cons_succ, List.getElem_cons_zero, Act.put, List.setIfInBounds_toArray, List.set_cons_zero, List.set_cons_succ]
      refine wpAnyH_done (by kernel_rfl) ?_ _
      go_wp2_with fail
      go_roundw
      case rel => exact ⟨k + 1, by omega, by go_num, HB2.out⟩
      case measure => simp [intOf]; omega
    · have hkn : k = n := by omega
      subst hkn
      have HB := Lib.hid hb; clear hb
      go_wp2_with fail
      go_ret
      exact ⟨rfl, HB.out⟩
end Go.Proofs.Ytpedlofckbplmaa
