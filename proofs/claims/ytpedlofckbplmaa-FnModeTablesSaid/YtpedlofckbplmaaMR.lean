/-
  Chapter 11: the program's reader of tables, which recovers; impl.ReadModeTable.
-/
import Derived.Test.YtpedlofckbplmaaMF
import Derived.Test.YtpedlofckbplmaaRdT
import Derived.Test.YtpedlofckbplmaaME
import Derived.Test.YtpedlofckbplmaaQ2
import Derived.Laws.Pointers
import Derived.BigQuiet
namespace Go.Proofs.Ytpedlofckbplmaa
open Go.RowKit

theorem pModes_short {xs : List Int} (h0 : xs.length < 1) : pModes xs = none := by unfold pModes; rw [if_pos h0]
theorem mode_any (p : Nat) (ys : List Int) (w : World) (h : RdrAt w p ys) (hl : ys.length ≤ 1048576) :
    Calls Try.prog 72 #[.pointer (some ⟨p, 0, none⟩)] w (GotMd w p (pMd ys)) := by
  unfold pMd
  by_cases h1 : ys.length < 1
  · rw [if_pos h1]; exact mode_bad1 p ys w h h1
  rw [if_neg h1]
  by_cases h2 : (ys.drop 1).length < 1
  · rw [if_pos h2]; exact mode_bad2 p ys w h h1 h2
  rw [if_neg h2]
  by_cases h3 : ((ys.drop 1).drop 1).length < 1
  · rw [if_pos h3]; exact mode_bad3 p ys w h h1 h2 h3
  rw [if_neg h3]
  by_cases h4 : (((ys.drop 1).drop 1).drop 1).length < (((ys.drop 1).drop 1).getD 0 0).toNat
  · rw [if_pos h4]; exact mode_bad4 p ys w h h1 h2 h3 h4
  rw [if_neg h4]
  exact mode_ok p ys w h h1 h2 h3 h4 hl
theorem catch_panicking_m (a : Addr) (x : Int) (u : TypeId) (pv : Value) (older : List PanicEntry) (w : World) (hc : w.cell? a = some (.int .i64 x)) (hz : w.frozen? a = false) :
    CallsD Try.prog 109 #[.pointer (some a)] (.panicking ({ v := .iface u pv, recovered := false } :: older)) w fun e u' w' =>
      e = .returned (.tuple #[]) ∧ u' = .panicking ({ v := .iface u pv, recovered := true } :: older) ∧ w' = w.setCell a (.int .i64 6) := by
  refine callsD_of_wpS Try.func109 rfl fun c₀ cs hu => ?_
  apply wpS_seq
  apply wpS_region
  simp [wpOpsS, go_sem, recoverD, hu, Try.ntmps109, Exit.thenS]
  refine wpS_cond (t := true) (by simp [Act.eval, Array.replicate]) ?_
  simp only [if_true]
  apply wpS_region
  simp [wpOpsS, go_sem, hc, hz, bodyPostS, results, Try.results109]
theorem catch_idle_m (a : Addr) (w : World) :
    CallsD Try.prog 109 #[.pointer (some a)] .returning w fun e u' w' => e = .returned (.tuple #[]) ∧ u' = .returning ∧ w' = w := by
  refine callsD_of_wpS Try.func109 rfl fun c₀ cs hu => ?_
  apply wpS_seq
  apply wpS_region
  simp [wpOpsS, go_sem, recoverD, hu, Try.ntmps109, Exit.thenS]
  refine wpS_cond (t := false) (by simp [Act.eval, Array.replicate]) ?_
  simp only [Bool.false_eq_true, if_false]
  refine wpS_of_wp (wp_skip ?_)
  cases c₀
  simp_all [bodyPostS, results, Try.results109]
/-- What readTable leaves. -/
def GotR_m (w : World) (n : Nat) (o : Option (List Md × List Int)) (e : Ending) (w' : World) : Prop :=
  match o with
  | some (t, r) => ∃ v, e = .returned (.tuple #[v, .int .i64 ((n : Int) - (r.length : Int)), .int .i64 0]) ∧ OwnMs 78 2 w' w.heap.size v t ∧ Below w.heap.size w w'
  | none => e = .returned (.tuple #[.slice none 0 0, .int .i64 0, .int .i64 6]) ∧ Below w.heap.size w w'
set_option maxRecDepth 100000 in
set_option maxHeartbeats 1000000 in
theorem readTable_range_m (ao : Option Addr) (n cap : Nat) (xs : List Int) (w : World) (hr : Rd w ao n xs) (hn : n ≤ 1048576) (hby : isBytes xs = false) :
    Calls Try.prog 71 #[.slice ao n cap, .func (.func 72) #[] #[], .func (.func 33) #[] #[]] w fun e w' => e = .returned (.tuple #[.slice none 0 0, .int .i64 0, .int .i64 2]) ∧ Below w.heap.size w w' := by
  have hb : Below w.heap.size w (w.alloc (.cells #[.int .i64 0] 2)) := (Below.refl _ _).alloc (Nat.le_refl _) _
  have HIB := Lib.hid (isBytes_any ao n cap xs _ (hr.below hb) (by omega))
  have hh : (w.alloc (.cells #[.int .i64 0] 2)).heap[w.heap.size]? = some (.cells #[.int .i64 0] 2 (0, 0)) := heap_alloc_new w _
  have h2 := heap_setCell_same _ w.heap.size 0 _ _ (.int .i64 2) hh
  have c1 : (w.alloc (.cells #[.int .i64 0] 2)).cell? ⟨w.heap.size, 0, none⟩ = some (.int .i64 0) := cell_of_row _ _ 0 _ _ _ hh
  have f1 : (w.alloc (.cells #[.int .i64 0] 2)).frozen? ⟨w.heap.size, 0, none⟩ = false := frozen_of_row _ _ 0 _ _ hh
  clear hr hb hh h2
  go_enter_defers Try.func71, Try.ntmps71
  go_wp2_with fail
  refine HIB.out.mono ?_
  rintro e w' ⟨rfl, rfl⟩
  rw [hby]
  go_wp2_with fail
  simp only [bodyPostD, Leaves]
  have c2 : (w.alloc (.cells #[.int .i64 2] 2)).cell? ⟨w.heap.size, 0, none⟩ = some (.int .i64 2) := new_cell rfl
  simp [results, Try.results71, go_sem, c2]
  exact (Below.refl _ _).alloc (Nat.le_refl _) _
set_option maxRecDepth 100000 in
set_option maxHeartbeats 4000000 in
set_option linter.unusedSimpArgs false in
theorem readTable_any_m (ao : Option Addr) (n0 cap : Nat) (xs : List Int) (w : World) (hr : Rd w ao n0 xs) (hn : n0 ≤ 1048576) (hcap : n0 ≤ cap) (hcap2 : cap ≤ 9223372036854775807) (hblk : ∀ a, ao = some a → a.block < w.heap.size) (hby : isBytes xs = true) :
    Calls Try.prog 71 #[.slice ao n0 cap, .func (.func 72) #[] #[], .func (.func 33) #[] #[]] w (GotR_m w n0 (pModes xs)) := by
  have hl := hr.len
  subst hl
  have hmf : ∀ (fn : Fn) (first cap : Array Value) (w : World), (Instr.makeFunc fn first cap).run Try.prog w = .ok (.func fn first cap) w := fun _ _ _ _ => rfl
  obtain ⟨hl1, hin⟩ := isBytes_iff.1 hby
  have HIB := Lib.hid (isBytes_any ao xs.length cap xs (w.alloc (.cells #[.int .i64 0] 2)) (hr.below ((Below.refl _ _).alloc (Nat.le_refl _) _)) (by omega))
  have HS := Lib.hid (RtSt.start hr hcap hcap2 hblk hin)
  have HBY := Lib.hid hin
  clear hr hblk hl1 hin
  by_cases h0 : xs.length < 1
  · rw [pModes_short h0]
    have HC := Lib.hid (number_bad (w.heap.size + 1) 1 xs _ HS.out.rd h0)
    clear h0
    go_enter_defers Try.func71, Try.ntmps71
    go_wp2_with fail
    refine HIB.out.mono ?_
    rintro e w' ⟨rfl, rfl⟩
    rw [hby]
    go_wp2_with fail
    refine HC.out.mono ?_
    rintro e w9 hbad
    obtain ⟨c1, f1, hbs, c2⟩ := HS.out.bad hbad
    obtain ⟨⟨u, v, rfl⟩, -⟩ := hbad
    have HBS := Lib.hid hbs; have C2 := Lib.hid c2
    clear hbs c2
    go_wp2_with fail
    refine leaves_cons (f := 109) (args := #[.pointer (some ⟨w.heap.size, 0, none⟩)]) (by simp) (by simp [go_sem]) ?_
    refine (catch_panicking_m ⟨w.heap.size, 0, none⟩ 0 u v [] _ c1 f1).mono ?_
    rintro e u' w'' ⟨rfl, rfl, rfl⟩
    have c2 := C2.out
    simp [Leaves, settle, results, Try.results71, go_sem, c2]
    exact ⟨rfl, HBS.out⟩
  have hc0 := number_ok (w.heap.size + 1) 1 xs _ HS.out.rd (by omega) (by omega)
  rw [byteNum_one (by omega)] at hc0
  obtain ⟨n, hn1⟩ : ∃ n : Nat, n = (xs.getD 0 0).toNat := ⟨_, rfl⟩
  have hn4 := bytes_at_rt HBY.out 0
  have hn0 : xs.getD 0 0 = (n : Int) := by omega
  have hn5 : n ≤ 255 := by omega
  rw [hn0] at hc0
  have HNONE := Lib.hid (fun k (h : pMds (xs.drop 1) k = none) (hk : k ≤ n) => pModes_none h0 h (by rw [← hn1]; exact hk))
  have HTAB := Lib.hid (fun t r (h : pMds (xs.drop 1) n = some (t, r)) => pModes_tab (t := t) (r := r) h0 (by rw [← hn1]; exact h))
  have HLS := Lib.hid (fun k t r (h : pMds (xs.drop 1) k = some (t, r)) => pMds_len h)
  obtain ⟨ys, hys⟩ : ∃ ys, ys = xs.drop 1 := ⟨_, rfl⟩
  rw [← hys] at HNONE HTAB HLS hc0
  have hyl : ys.length ≤ 1048576 := by rw [hys, List.length_drop]; omega
  have HYL := Lib.hid hyl
  have H0 := Lib.hid h0
  have HC := Lib.hid hc0
  have HYX := Lib.hid (show ys.length ≤ xs.length by rw [hys, List.length_drop]; omega)
  clear hys h0 hyl hc0 hn0 hn1 hn4 HBY
  go_enter_defers Try.func71, Try.ntmps71
  go_wp2_with fail
  refine HIB.out.mono ?_
  rintro e w' ⟨rfl, rfl⟩
  rw [hby]
  go_wp2_with fail
  refine HC.out.mono ?_
  rintro e w1 ⟨rfl, hR, hG⟩
  have HS1 := Lib.hid (HS.out.call hR hG)
  clear hR hG HC HS HIB
  go_wp2_with (at_make; refine make_md (EI := 2) _ rfl _ _ rfl w1.heap.size Try.underlying39 infoMd _ _ _ _ n rfl rfl rfl rfl (by omega) (Nat.le_refl _) ?_; intro w2 o2 b2)
  have o2' : OwnM 78 2 w2 w1.heap.size (.slice (some ⟨w1.heap.size, 0, none⟩) n n) (fillM [] n) := by
    have e : fillM [] n = List.replicate n Mc.zero := by simp [fillM]
    rw [e]; exact o2
  have HS2 := Lib.hid (HS1.out.next b2)
  have hGs := HS1.out.size
  obtain ⟨G, hGe⟩ : ∃ G, G = w1.heap.size := ⟨_, rfl⟩
  rw [← hGe] at o2' hGs ⊢
  clear o2 b2 hGe HS1
  go_loopw [24] (fun i wr => ∃ (k : Nat) (t : List Mc) (r : List Int), k ≤ n ∧ i = .int .i64 k ∧ Hid (pMds ys k = some ((mds t), r)) ∧ OwnM 78 2 wr G (.slice (some ⟨G, 0, none⟩) n n) (fillM t n) ∧ Hid (RtSt w wr r)) (fun i _ => n - (intOf i).toNat)
  case atStart => exact ⟨0, [], ys, Nat.zero_le _, rfl, rfl, o2', HS2⟩
  case round =>
    clear o2' HS2
    obtain ⟨k, t, r, hk, rfl, hpe, ho, HS⟩ := hrel
    obtain ⟨htl, hrl, hsm⟩ := HLS.out _ _ _ hpe.out
    rw [mds_len] at htl
    have hrl2 : r.length ≤ 1048576 := Nat.le_trans hrl HYL.out
    have HSM := Lib.hid hsm; clear hsm
    have hpe1 : pMds ys (k + 1) = (pMd r).map fun q => ((mds t) ++ [q.1], q.2) := by rw [pMds, hpe.out]; rfl
    have HO := Lib.hid ho; have HTL := Lib.hid htl; have HPE1 := Lib.hid hpe1
    clear ho htl hpe1
    by_cases hlt : k < n
    · have HCB := Lib.hid (mode_any (w.heap.size + 1) r wr HS.out.rd hrl2)
      rcases hok : pMd r with _ | ⟨x, r2⟩
      · have hnn : pModes xs = none := HNONE.out (k + 1) (by rw [HPE1.out, hok]; rfl) hlt
        rw [hnn]
        rw [hok] at HCB
        clear hnn
        go_wp2_with fail
        refine HCB.out.mono ?_
        rintro e w9 hbad
        obtain ⟨c1, f1, hbs, c2⟩ := HS.out.bad hbad
        obtain ⟨⟨u, v, rfl⟩, -⟩ := hbad
        have HBS := Lib.hid hbs; have C2 := Lib.hid c2
        clear hbs c2
        go_wp2_with fail
        refine leaves_cons (f := 109) (args := #[.pointer (some ⟨w.heap.size, 0, none⟩)]) (by simp) (by simp [go_sem]) ?_
        refine (catch_panicking_m ⟨w.heap.size, 0, none⟩ 0 u v [] _ c1 f1).mono ?_
        rintro e u' w'' ⟨rfl, rfl, rfl⟩
        have c2 := C2.out
        simp [Leaves, settle, results, Try.results71, go_sem, c2]
        exact ⟨rfl, HBS.out⟩
      · have hpe2 : pMds ys (k + 1) = some ((mds t) ++ [x], r2) := by rw [HPE1.out, hok]; rfl
        rw [hok] at HCB
        have HPE2 := Lib.hid hpe2; clear hpe2 HPE1 hok
        go_wp2_with fail
        refine HCB.out.mono ?_
        rintro e w3 ⟨c, hcm, rfl, oc, hR3, hG3⟩
        unfold mcVal
        have hfl : (fillM t n).length = n := fillM_len (by rw [HTL.out]; omega)
        have hO3 := HO.out.old hG3 (show w.heap.size + 1 < G by omega)
        have hset := fillM_set (t := t) (n := n) (by rw [HTL.out]; exact hlt) c
        rw [HTL.out] at hset
        have hwz : G ≤ wr.heap.size := by have := (HO.out.block G rfl).2; omega
        obtain ⟨hz, ⟨f0, f1, f2⟩, hst, hbst⟩ := hO3.store ne_md hfl hlt c (oc.more hwz) (HO.out.fresh oc)
        rw [hset] at hst
        have HST := Lib.hid hst
        have HS4 := Lib.hid ((HS.out.call hR3 hG3).low hbst hGs)
        obtain ⟨z0, z1, z2⟩ := hz
        generalize mcOf (fillM t n) k = z at z0 z1 z2
        have HPE3 : pMds ys (k + 1) = some (mds (t ++ [c]), r2) := by rw [HPE2.out]; simp [mds, hcm]
        have hcm2 := Lib.hid HPE3
        clear hst hbst hset hO3 hfl hR3 hG3 HS hcm oc hwz HPE3
        go_wp2_with fail
        clear z0 z1 z2 f0 f1 f2
        go_roundw
        case rel => exact ⟨k + 1, t ++ [c], r2, by omega, by go_num, hcm2, HST.out, HS4⟩
        case measure => simp [intOf]; omega
    · have hkn : k = n := by omega
      subst hkn
      have ho := HO.out
      have hft : fillM t k = t := by rw [← HTL.out]; exact fillM_full
      rw [hft] at ho
      have HO2 := Lib.hid ho
      obtain ⟨ao', cap', e1, r1, -⟩ := ho.form
      simp only [Value.slice.injEq] at e1
      rw [← e1.1, HTL.out] at r1
      clear e1
      have hcall := isModesI_any (some ⟨G, 0, none⟩) k k t wr r1 (by omega) (fun c hc => by have := HSM.out c.md (List.mem_map_of_mem hc); have := HYL.out; omega)
      have HCALL := Lib.hid hcall
      have hpt := HTAB.out (mds t) r hpe.out
      have HRL := Lib.hid (show r.length ≤ xs.length from Nat.le_trans hrl HYX.out)
      clear hcall ho hft r1 HPE1 hrl2 hrl
      rcases ht : isModes (mds t) with _ | _
      · rw [ht] at hpt HCALL
        rw [if_neg (by simp)] at hpt
        rw [hpt]
        have hreq := fun W => require_bad (.pointer (some ⟨w.heap.size + 1, 0, none⟩)) W (w.heap.size + 1)
        go_wp2_with fail
        refine HCALL.out.mono ?_
        rintro e w3 ⟨rfl, b3⟩
        replace HS := Lib.hid (HS.out.next b3); clear b3
        go_wp2_with fail
        refine (hreq _).mono ?_
        rintro e w9 hbad
        clear hreq
        obtain ⟨c1, f1, hbs, c2⟩ := HS.out.bad hbad
        obtain ⟨⟨u, v, rfl⟩, -⟩ := hbad
        have HBS := Lib.hid hbs; have C2 := Lib.hid c2
        clear hbs c2
        go_wp2_with fail
        refine leaves_cons (f := 109) (args := #[.pointer (some ⟨w.heap.size, 0, none⟩)]) (by simp) (by simp [go_sem]) ?_
        refine (catch_panicking_m ⟨w.heap.size, 0, none⟩ 0 u v [] _ c1 f1).mono ?_
        rintro e u' w'' ⟨rfl, rfl, rfl⟩
        have c2 := C2.out
        simp [Leaves, settle, results, Try.results71, go_sem, c2]
        exact ⟨rfl, HBS.out⟩
      · rw [ht] at hpt HCALL
        rw [if_pos rfl] at hpt
        have HPT := Lib.hid hpt; clear hpt
        have hreq := fun W => require_ok (.pointer (some ⟨w.heap.size + 1, 0, none⟩)) W
        go_wp2_with fail
        refine HCALL.out.mono ?_
        rintro e w3 ⟨rfl, b3⟩
        replace HS := Lib.hid (HS.out.next b3)
        have O3 := Lib.hid (HO2.out.below b3); clear b3
        go_wp2_with fail
        refine (hreq _).mono ?_
        rintro e w4 ⟨rfl, rfl⟩
        clear hreq HCALL HO HO2 HNONE HTAB HLS
        obtain ⟨ao2, cap2, hcell, c1, f1, hcell2, c2, f2, hB2⟩ := HS.out.done
        have HB2 := Lib.hid hB2; have C2 := Lib.hid c2
        have hO2 := OwnM.old O3.out (grown_set w3 w.heap.size 0 (.int .i64 0)) (by omega)
        have HO2 := Lib.hid (hO2.more (base' := w.heap.size) (by omega))
        clear hO2 hB2 c2
        have hws : IntKind.i64.wrap ((xs.length : Int) - (r.length : Int)) = (xs.length : Int) - (r.length : Int) := by have := HRL.out; rw [IntKind.wrap_i64]; omega
        go_wp2_with fail
        refine wp_mono (h := ?_) (hq := fun e a w h => of_nopanic h)
        refine wp_region_held_drew (S := fun w' => w'.cell? ⟨w.heap.size + 1, 0, none⟩ = some (.slice ao2 r.length cap2) ∧ w'.cell? ⟨w.heap.size, 0, none⟩ = some (.int .i64 0) ∧ w'.frozen? ⟨w.heap.size, 0, none⟩ = false) (by kernel_rfl) (⟨hcell, c1, f1⟩) (fun hHeld => ?_)
        refine wpAnyH_take (i := 0) (v := ?_) rfl (by kernel_rfl) (by kernel_rfl) (by kernel_rfl) (fun _ _ _ h => h) (Or.inl ⟨by rfl, ?_⟩) (by assumption) ?_
        rotate_left
        · (intro w hSw; (try dsimp only at hSw); go_simp; (try with_reducible rfl))
        try simp only [List.getElem_toArray, List.getElem_cons_succ, List.getElem_cons_zero, Act.put, List.setIfInBounds_toArray, List.set_cons_zero, List.set_cons_succ]
        refine wpAnyH_take (i := 1) (v := ?_) rfl (by kernel_rfl) (by kernel_rfl) (by kernel_rfl) (fun _ _ _ h => h) (Or.inl ⟨by rfl, ?_⟩) (by assumption) ?_
        rotate_left
        · (intro w hSw; (try dsimp only at hSw); go_simp; (try with_reducible rfl))
        try simp only [List.getElem_toArray, List.getElem_cons_succ, List.getElem_cons_zero, Act.put, List.setIfInBounds_toArray, List.set_cons_zero, List.set_cons_succ]
        refine wpAnyH_take (i := 2) (v := ?_) rfl (by kernel_rfl) (by kernel_rfl) (by kernel_rfl) (fun _ _ _ h => h) (Or.inl ⟨by rfl, ?_⟩) (by assumption) ?_
        rotate_left
        · (intro w hSw; (try dsimp only at hSw); go_simp; (try with_reducible rfl))
        try simp only [List.getElem_toArray, List.getElem_cons_succ, List.getElem_cons_zero, Act.put, List.setIfInBounds_toArray, List.set_cons_zero, List.set_cons_succ]
        refine wpAnyH_take (i := 3) (v := ?_) rfl (by kernel_rfl) (by kernel_rfl) (by kernel_rfl) (fun _ _ _ h => h) (Or.inl ⟨by rfl, ?_⟩) (by assumption) ?_
        rotate_left
        · (intro w hSw; (try dsimp only at hSw); go_simp; (try with_reducible rfl))
        try simp only [List.getElem_toArray, List.getElem_cons_succ, List.getElem_cons_zero, Act.put, List.setIfInBounds_toArray, List.set_cons_zero, List.set_cons_succ]
        refine wpAnyH_take (i := 4) (v := ?_) rfl (by kernel_rfl) (by kernel_rfl) (by kernel_rfl) (fun _ _ _ h => h) (Or.inl ⟨by rfl, ?_⟩) (by assumption) ?_
        rotate_left
        · (intro w hSw; (try dsimp only at hSw); go_simp; (try with_reducible rfl))
        try simp only [List.getElem_toArray, List.getElem_cons_succ, List.getElem_cons_zero, Act.put, List.setIfInBounds_toArray, List.set_cons_zero, List.set_cons_succ]
        refine wpAnyH_take (i := 5) (v := ?_) rfl (by kernel_rfl) (by kernel_rfl) (by kernel_rfl) (fun _ _ _ h => h) (Or.inl ⟨by rfl, ?_⟩) (by assumption) ?_
        rotate_left
        · (intro w hSw; (try dsimp only at hSw); go_simp; (try with_reducible rfl))
        try simp only [List.getElem_toArray, List.getElem_cons_succ, List.getElem_cons_zero, Act.put, List.setIfInBounds_toArray, List.set_cons_zero, List.set_cons_succ]
        refine wpAnyH_take (i := 6) (v := ?_) rfl (by kernel_rfl) (by kernel_rfl) (by kernel_rfl) (fun _ _ _ h => h) (Or.inl ⟨by rfl, ?_⟩) (by assumption) ?_
        rotate_left
        · (intro w hSw; (try dsimp only at hSw); go_simp; (try with_reducible rfl))
        try simp only [List.getElem_toArray, List.getElem_cons_succ, List.getElem_cons_zero, Act.put, List.setIfInBounds_toArray, List.set_cons_zero, List.set_cons_succ]
        refine wpAnyH_take (i := 7) (v := ?_) rfl (by kernel_rfl) (by kernel_rfl) (by kernel_rfl) (fun _ _ _ h => h) (Or.inl ⟨by rfl, ?_⟩) (by assumption) ?_
        rotate_left
        · (intro w hSw; (try dsimp only at hSw); go_simp; (try with_reducible rfl))
        try simp only [List.getElem_toArray, List.getElem_cons_succ, List.getElem_cons_zero, Act.put, List.setIfInBounds_toArray, List.set_cons_zero, List.set_cons_succ]
        refine wpAnyH_take (i := 8) (v := ?_) rfl (by kernel_rfl) (by kernel_rfl) (by kernel_rfl) (fun _ _ _ h => h) (Or.inl ⟨by rfl, ?_⟩) (by assumption) ?_
        rotate_left
        · (intro w hSw; (try dsimp only at hSw); go_simp; (try with_reducible rfl))
        try simp only [List.getElem_toArray, List.getElem_cons_succ, List.getElem_cons_zero, Act.put, List.setIfInBounds_toArray, List.set_cons_zero, List.set_cons_succ]
        refine wpAnyH_take (i := 9) (v := ?_) rfl (by kernel_rfl) (by kernel_rfl) (by kernel_rfl) (fun _ _ _ h => h) (Or.inl ⟨by rfl, ?_⟩) (by assumption) ?_
        rotate_left
        · (intro w hSw; (try dsimp only at hSw); go_simp; (try with_reducible rfl))
        try simp only [List.getElem_toArray, List.getElem_cons_succ, List.getElem_cons_zero, Act.put, List.setIfInBounds_toArray, List.set_cons_zero, List.set_cons_succ]
        refine wpAnyH_take (i := 10) (v := ?_) rfl (by kernel_rfl) (by kernel_rfl) (by kernel_rfl) (fun _ _ _ h => h) (Or.inl ⟨by rfl, ?_⟩) (by assumption) ?_
        rotate_left
        · (intro w hSw; (try dsimp only at hSw); go_simp; (try with_reducible rfl))
        try simp only [List.getElem_toArray, List.getElem_cons_succ, List.getElem_cons_zero, Act.put, List.setIfInBounds_toArray, List.set_cons_zero, List.set_cons_succ]
        refine wpAnyH_ready (rs := [11]) (by kernel_rfl) (by simp) (AllReadyH.cons rfl (fun K hK => ?_) AllReadyH.nil)
        go_simp
        refine hK.out _ _ ?_ (fun hHeld => ?_)
        · exact ⟨hcell2, C2.out, f2⟩
        clear hK K
        try simp only [List.getElem_toArray, List.getElem_cons_succ, List.getElem_cons_zero, Act.put, List.setIfInBounds_toArray, List.set_cons_zero, List.set_cons_succ]
        refine wpAnyH_done (by kernel_rfl) ?_ _
        simp only [nopanic]
        have c2 := C2.out
        go_wp2_with fail
        refine leaves_cons (f := 109) (args := #[.pointer (some ⟨w.heap.size, 0, none⟩)]) (by simp) (by simp [go_sem]) ?_
        refine (catch_idle_m ⟨w.heap.size, 0, none⟩ _).mono ?_
        rintro e u' w'' ⟨rfl, rfl, rfl⟩
        simp [Leaves, settle, results, Try.results71, go_sem, c2]
        rw [HPT.out]
        exact ⟨_, rfl, ⟨t, rfl, HO2.out.below (Below.drew (Below.refl _ _))⟩, Below.drew HB2.out⟩
theorem rm_range {xs : List Int} (h : isBytes xs = false) : readModeTable xs = ([], 0, 2) := by unfold readModeTable; rw [if_pos h]
theorem rm_none {xs : List Int} (h : isBytes xs = true) (h2 : readModes xs = none) : readModeTable xs = ([], 0, 6) := by unfold readModeTable; rw [if_neg (by rw [h]; simp), h2]
theorem rm_some {xs : List Int} {t : List Md} {a : Nat} (h : isBytes xs = true) (h2 : readModes xs = some (t, a)) : readModeTable xs = (t, (a : Int), 0) := by unfold readModeTable; rw [if_neg (by rw [h]; simp), h2]
set_option maxRecDepth 100000 in
set_option maxHeartbeats 1000000 in
theorem readModesI_any (ao : Option Addr) (n cap : Nat) (xs : List Int) (w : World) (hr : Rd w ao n xs) (hn : n ≤ 1048576) (hcap : n ≤ cap) (hcap2 : cap ≤ 9223372036854775807) (hblk : ∀ a, ao = some a → a.block < w.heap.size) :
    Calls Try.prog 30 #[.slice ao n cap] w (MakesM3 78 2 w (readModeTable xs).1 (readModeTable xs).2.1 (readModeTable xs).2.2) := by
  have hl := hr.len
  subst hl
  rcases hby : isBytes xs with _ | _
  · have HF := Lib.hid (rm_range hby)
    rw [HF.out]
    have HC := Lib.hid (readTable_range_m ao xs.length cap xs w hr hn hby)
    clear hr hblk
    go_enter Try.func30, Try.ntmps30
    go_wp2_with fail
    refine HC.out.mono ?_
    rintro e w' ⟨rfl, b1⟩
    go_wp2_with fail
    go_ret3
    exact ⟨_, rfl, OwnMs.nil_, b1⟩
  have hpe := pModes_eq xs
  rcases hp : pModes xs with _ | ⟨t, r⟩
  · rw [hp] at hpe
    have HF := Lib.hid (rm_none hby hpe)
    rw [HF.out]
    have HC := Lib.hid ((by have h := readTable_any_m ao xs.length cap xs w hr hn hcap hcap2 hblk hby; rw [hp] at h; exact h : Calls Try.prog 71 #[.slice ao xs.length cap, .func (.func 72) #[] #[], .func (.func 33) #[] #[]] w (GotR_m w xs.length none)))
    clear hr hpe hblk
    go_enter Try.func30, Try.ntmps30
    go_wp2_with fail
    refine HC.out.mono ?_
    rintro e w1 ⟨rfl, b1⟩
    go_wp2_with fail
    go_ret3
    exact ⟨_, rfl, OwnMs.nil_, b1⟩
  · rw [hp] at hpe
    have hrl := (pModes_rest hp).1
    have HF := Lib.hid (rm_some hby hpe)
    have HC := Lib.hid ((by have h := readTable_any_m ao xs.length cap xs w hr hn hcap hcap2 hblk hby; rw [hp] at h; exact h : Calls Try.prog 71 #[.slice ao xs.length cap, .func (.func 72) #[] #[], .func (.func 33) #[] #[]] w (GotR_m w xs.length (some (t, r)))))
    have HE := Lib.hid (show ((xs.length : Int) - (r.length : Int)) = ((xs.length - r.length : Nat) : Int) from by omega)
    clear hr hpe hblk
    go_enter Try.func30, Try.ntmps30
    go_wp2_with fail
    refine HC.out.mono ?_
    rintro e w1 ⟨v, rfl, o1, b1⟩
    rw [HE.out]
    go_wp2_with fail
    go_ret3
    rw [HF.out]
    exact ⟨_, rfl, o1, b1⟩
end Go.Proofs.Ytpedlofckbplmaa
