/-
  Chapter 10: the program's reader of tables, which recovers; impl.ReadNodeTable.
-/
import Derived.Test.YtpedlofckbplmaaNE
import Derived.Test.YtpedlofckbplmaaL1
import Derived.Test.YtpedlofckbplmaaRdT
import Derived.Test.YtpedlofckbplmaaNB
import Derived.Laws.Pointers
import Derived.BigQuiet
namespace Go.Proofs.Ytpedlofckbplmaa
open Go.RowKit

/-- What an entry's reading leaves. -/
def GotNd (w : World) (p : Nat) (o : Option (Nd × List Int)) (e : Ending) (w' : World) : Prop :=
  match o with
  | some (x, r) => e = .returned (ndVal x) ∧ RdrAt w' p r ∧ w.grownBy w' (some p)
  | none => Bad w p e w'
theorem node_any (p : Nat) (ys : List Int) (w : World) (h : RdrAt w p ys) (_hl : ys.length ≤ 1048576) :
    Calls Try.prog 58 #[.pointer (some ⟨p, 0, none⟩)] w (GotNd w p (pEntry ys)) := by
  unfold pEntry
  rcases hok : okEntry ys with _ | _
  · rw [if_neg (by simp)]; exact entry_bad p ys w h hok
  · rw [if_pos rfl]; exact entry_ok p ys w h hok
theorem pEnts_none {ys : List Int} {k : Nat} (h : pEnts ys k = none) : ∀ j, pEnts ys (k + j) = none
  | 0 => h
  | j + 1 => by rw [← Nat.add_assoc, pEnts, pEnts_none h j]; rfl
theorem pRead_none {xs : List Int} {k : Nat} (h0 : ¬ xs.length < 1) (h : pEnts (xs.drop 1) k = none) (hk : k ≤ (xs.getD 0 0).toNat) : pRead xs = none := by
  have h1 := pEnts_none h ((xs.getD 0 0).toNat - k)
  rw [show k + ((xs.getD 0 0).toNat - k) = (xs.getD 0 0).toNat from by omega] at h1
  unfold pRead
  rw [if_neg (by omega), h1]; rfl
theorem pRead_tab {xs : List Int} {t : List Nd} {r : List Int} (h0 : ¬ xs.length < 1) (h : pEnts (xs.drop 1) (xs.getD 0 0).toNat = some (t, r)) : pRead xs = if isTable t = true then some (t, r) else none := by
  unfold pRead
  rw [if_neg (by omega), h]; rfl
theorem pRead_short {xs : List Int} (h0 : xs.length < 1) : pRead xs = none := by unfold pRead; rw [if_pos (by omega)]
theorem mem_flat_size {t : List Nd} {x : Nd} (h : x ∈ t) : x.name.size ≤ (t.flatMap ndBytes).length := by
  induction t with
  | nil => cases h
  | cons a r ih =>
    rw [List.flatMap_cons, List.length_append]
    rcases List.mem_cons.1 h with rfl | h
    · have := ndBytes_len x; omega
    · have := ih h; omega
theorem pEnts_small {ys : List Int} (hb : ∀ x ∈ ys, 0 ≤ x ∧ x ≤ 255) (hl : ys.length ≤ 1048576) {k : Nat} {t : List Nd} {r : List Int} (h : pEnts ys k = some (t, r)) : smallN t := fun i hi => by
  have h1 := (pEnts_some hb h).1
  have h2 := mem_flat_size (ndOf_mem hi)
  have h3 : ys.length = (t.flatMap ndBytes).length + r.length := by rw [h1, List.length_append]
  omega
theorem pEnts_rest {ys : List Int} (hb : ∀ x ∈ ys, 0 ≤ x ∧ x ≤ 255) {k : Nat} {t : List Nd} {r : List Int} (h : pEnts ys k = some (t, r)) : r.length ≤ ys.length := by
  have h3 : ys.length = (t.flatMap ndBytes).length + r.length := by conv => lhs; rw [(pEnts_some hb h).1]; rw [List.length_append]
  omega
def fillT (t : List Nd) (n : Nat) : List Nd := t ++ List.replicate (n - t.length) Nd.zero
theorem fillT_len {t : List Nd} {n : Nat} (h : t.length ≤ n) : (fillT t n).length = n := by unfold fillT; rw [List.length_append, List.length_replicate]; omega
theorem fillT_set {t : List Nd} {n : Nat} (h : t.length < n) (x : Nd) : (fillT t n).set t.length x = fillT (t ++ [x]) n := by
  unfold fillT
  rw [List.set_append_right _ _ (Nat.le_refl _), Nat.sub_self, show n - t.length = (n - (t ++ [x]).length) + 1 from by rw [List.length_append, List.length_singleton]; omega, List.replicate_succ, List.set_cons_zero]
  simp
theorem fillT_full {t : List Nd} : fillT t t.length = t := by unfold fillT; simp
theorem old_n {w w' : World} {E base b : Nat} {v : Value} {t : List Nd} (h : OwnN E w base v t) (hg : w.grownBy w' (some b)) (hb : b < base) : OwnN E w' base v t := h.only hg (by
  rcases hv : v.ownBlock with _ | k
  · exact .inl rfl
  · refine .inr (fun e => ?_)
    have := (h.block k hv).1
    cases e
    omega)
theorem catch_panicking_n (a : Addr) (x : Int) (u : TypeId) (pv : Value) (older : List PanicEntry) (w : World) (hc : w.cell? a = some (.int .i64 x)) (hz : w.frozen? a = false) :
    CallsD Try.prog 95 #[.pointer (some a)] (.panicking ({ v := .iface u pv, recovered := false } :: older)) w fun e u' w' =>
      e = .returned (.tuple #[]) ∧ u' = .panicking ({ v := .iface u pv, recovered := true } :: older) ∧ w' = w.setCell a (.int .i64 6) := by
  refine callsD_of_wpS Try.func95 rfl fun c₀ cs hu => ?_
  apply wpS_seq
  apply wpS_region
  simp [wpOpsS, go_sem, recoverD, hu, Try.ntmps95, Exit.thenS]
  refine wpS_cond (t := true) (by simp [Act.eval, Array.replicate]) ?_
  simp only [if_true]
  apply wpS_region
  simp [wpOpsS, go_sem, hc, hz, bodyPostS, results, Try.results95]
theorem catch_idle_n (a : Addr) (w : World) :
    CallsD Try.prog 95 #[.pointer (some a)] .returning w fun e u' w' => e = .returned (.tuple #[]) ∧ u' = .returning ∧ w' = w := by
  refine callsD_of_wpS Try.func95 rfl fun c₀ cs hu => ?_
  apply wpS_seq
  apply wpS_region
  simp [wpOpsS, go_sem, recoverD, hu, Try.ntmps95, Exit.thenS]
  refine wpS_cond (t := false) (by simp [Act.eval, Array.replicate]) ?_
  simp only [Bool.false_eq_true, if_false]
  refine wpS_of_wp (wp_skip ?_)
  cases c₀
  simp_all [bodyPostS, results, Try.results95]
/-- What readTable leaves. -/
def GotR_n (w : World) (n : Nat) (o : Option (List Nd × List Int)) (e : Ending) (w' : World) : Prop :=
  match o with
  | some (t, r) => ∃ v, e = .returned (.tuple #[v, .int .i64 ((n : Int) - (r.length : Int)), .int .i64 0]) ∧ OwnN 59 w' w.heap.size v t ∧ Below w.heap.size w w'
  | none => e = .returned (.tuple #[.slice none 0 0, .int .i64 0, .int .i64 6]) ∧ Below w.heap.size w w'
set_option maxRecDepth 100000 in
set_option maxHeartbeats 1000000 in
theorem readTable_range_n (ao : Option Addr) (n cap : Nat) (xs : List Int) (w : World) (hr : Rd w ao n xs) (hn : n ≤ 1048576) (hby : isBytes xs = false) :
    Calls Try.prog 57 #[.slice ao n cap, .func (.func 58) #[] #[], .func (.func 18) #[] #[]] w fun e w' => e = .returned (.tuple #[.slice none 0 0, .int .i64 0, .int .i64 2]) ∧ Below w.heap.size w w' := by
  have hb : Below w.heap.size w (w.alloc (.cells #[.int .i64 0] 2)) := (Below.refl _ _).alloc (Nat.le_refl _) _
  have HIB := Lib.hid (isBytes_any ao n cap xs _ (hr.below hb) (by omega))
  have hh : (w.alloc (.cells #[.int .i64 0] 2)).heap[w.heap.size]? = some (.cells #[.int .i64 0] 2 (0, 0)) := heap_alloc_new w _
  have h2 := heap_setCell_same _ w.heap.size 0 _ _ (.int .i64 2) hh
  have c1 : (w.alloc (.cells #[.int .i64 0] 2)).cell? ⟨w.heap.size, 0, none⟩ = some (.int .i64 0) := cell_of_row _ _ 0 _ _ _ hh
  have f1 : (w.alloc (.cells #[.int .i64 0] 2)).frozen? ⟨w.heap.size, 0, none⟩ = false := frozen_of_row _ _ 0 _ _ hh
  clear hr hb hh h2
  go_enter_defers Try.func57, Try.ntmps57
  go_wp2_with fail
  refine HIB.out.mono ?_
  rintro e w' ⟨rfl, rfl⟩
  rw [hby]
  go_wp2_with fail
  simp only [bodyPostD, Leaves]
  have c2 : (w.alloc (.cells #[.int .i64 2] 2)).cell? ⟨w.heap.size, 0, none⟩ = some (.int .i64 2) := new_cell rfl
  simp [results, Try.results57, go_sem, c2]
  exact (Below.refl _ _).alloc (Nat.le_refl _) _
set_option maxRecDepth 100000 in
set_option maxHeartbeats 4000000 in
set_option linter.unusedSimpArgs false in
theorem readTable_any_n (ao : Option Addr) (n0 cap : Nat) (xs : List Int) (w : World) (hr : Rd w ao n0 xs) (hn : n0 ≤ 1048576) (hcap : n0 ≤ cap) (hcap2 : cap ≤ 9223372036854775807) (hblk : ∀ a, ao = some a → a.block < w.heap.size) (hby : isBytes xs = true) :
    Calls Try.prog 57 #[.slice ao n0 cap, .func (.func 58) #[] #[], .func (.func 18) #[] #[]] w (GotR_n w n0 (pRead xs)) := by
  have hl := hr.len
  subst hl
  have hmf : ∀ (fn : Fn) (first cap : Array Value) (w : World), (Instr.makeFunc fn first cap).run Try.prog w = .ok (.func fn first cap) w := fun _ _ _ _ => rfl
  obtain ⟨hl1, hin⟩ := isBytes_iff.1 hby
  have HIB := Lib.hid (isBytes_any ao xs.length cap xs (w.alloc (.cells #[.int .i64 0] 2)) (hr.below ((Below.refl _ _).alloc (Nat.le_refl _) _)) (by omega))
  have HS := Lib.hid (RtSt.start hr hcap hcap2 hblk hin)
  have HBY := Lib.hid hin
  clear hr hblk hl1 hin
  by_cases h0 : xs.length < 1
  · rw [pRead_short h0]
    have HC := Lib.hid (number_bad (w.heap.size + 1) 1 xs _ HS.out.rd h0)
    clear h0
    go_enter_defers Try.func57, Try.ntmps57
    go_wp2_with fail
    refine HIB.out.mono ?_
    rintro e w' ⟨rfl, rfl⟩
    rw [hby]
    go_wp2_with fail
    refine HC.out.mono ?_
    rintro e w9 hbad
    obtain ⟨c1, f1, hbs, c2⟩ := HS.out.bad hbad
    obtain ⟨⟨u, v, rfl⟩, -⟩ := hbad
    have HBS := Lib.hid hbs; have C2 := Lib.hid c2
    clear hbs c2
    go_wp2_with fail
    refine leaves_cons (f := 95) (args := #[.pointer (some ⟨w.heap.size, 0, none⟩)]) (by simp) (by simp [go_sem]) ?_
    refine (catch_panicking_n ⟨w.heap.size, 0, none⟩ 0 u v [] _ c1 f1).mono ?_
    rintro e u' w'' ⟨rfl, rfl, rfl⟩
    have c2 := C2.out
    simp [Leaves, settle, results, Try.results57, go_sem, c2]
    exact ⟨rfl, HBS.out⟩
  have hc0 := number_ok (w.heap.size + 1) 1 xs _ HS.out.rd (by omega) (by omega)
  rw [byteNum_one (by omega)] at hc0
  obtain ⟨n, hn1⟩ : ∃ n : Nat, n = (xs.getD 0 0).toNat := ⟨_, rfl⟩
  have hn4 := bytes_at_rt HBY.out 0
  have hn0 : xs.getD 0 0 = (n : Int) := by omega
  have hn5 : n ≤ 255 := by omega
  rw [hn0] at hc0
  have HNONE := Lib.hid (fun k (h : pEnts (xs.drop 1) k = none) (hk : k ≤ n) => pRead_none h0 h (by rw [← hn1]; exact hk))
  have HTAB := Lib.hid (fun t r (h : pEnts (xs.drop 1) n = some (t, r)) => pRead_tab (t := t) (r := r) h0 (by rw [← hn1]; exact h))
  have HLS := Lib.hid (fun k t r (h : pEnts (xs.drop 1) k = some (t, r)) => And.intro (pEnts_some (byte_drop HBY.out 1) h).2 (And.intro (pEnts_rest (byte_drop HBY.out 1) h) (pEnts_small (byte_drop HBY.out 1) (by rw [List.length_drop]; omega) h)))
  obtain ⟨ys, hys⟩ : ∃ ys, ys = xs.drop 1 := ⟨_, rfl⟩
  rw [← hys] at HNONE HTAB HLS hc0
  have hyl : ys.length ≤ 1048576 := by rw [hys, List.length_drop]; omega
  have HYL := Lib.hid hyl
  have H0 := Lib.hid h0
  have HC := Lib.hid hc0
  have HYX := Lib.hid (show ys.length ≤ xs.length by rw [hys, List.length_drop]; omega)
  clear hys h0 hyl hc0 hn0 hn1 hn4 HBY
  go_enter_defers Try.func57, Try.ntmps57
  go_wp2_with fail
  refine HIB.out.mono ?_
  rintro e w' ⟨rfl, rfl⟩
  rw [hby]
  go_wp2_with fail
  refine HC.out.mono ?_
  rintro e w1 ⟨rfl, hR, hG⟩
  have HS1 := Lib.hid (HS.out.call hR hG)
  clear hR hG HC HS HIB
  go_wp2_with (at_make; refine make_nd _ rfl _ _ rfl w1.heap.size Try.underlying24 infoNd _ _ _ _ n rfl rfl rfl rfl (by omega) (Nat.le_refl _) ?_; intro w2 o2 b2)
  have o2' : OwnN 59 w2 w1.heap.size (.slice (some ⟨w1.heap.size, 0, none⟩) n n) (fillT [] n) := by
    have e : fillT [] n = List.replicate n Nd.zero := by simp [fillT]
    rw [e]; exact o2
  have HS2 := Lib.hid (HS1.out.next b2)
  have hGs := HS1.out.size
  obtain ⟨G, hGe⟩ : ∃ G, G = w1.heap.size := ⟨_, rfl⟩
  rw [← hGe] at o2' hGs ⊢
  clear o2 b2 hGe HS1
  go_loopw [24] (fun i wr => ∃ (k : Nat) (t : List Nd) (r : List Int), k ≤ n ∧ i = .int .i64 k ∧ Hid (pEnts ys k = some (t, r)) ∧ OwnN 59 wr G (.slice (some ⟨G, 0, none⟩) n n) (fillT t n) ∧ Hid (RtSt w wr r)) (fun i _ => n - (intOf i).toNat)
  case atStart => exact ⟨0, [], ys, Nat.zero_le _, rfl, rfl, o2', HS2⟩
  case round =>
    clear o2' HS2
    obtain ⟨k, t, r, hk, rfl, hpe, ho, HS⟩ := hrel
    obtain ⟨htl, hrl, hsm⟩ := HLS.out _ _ _ hpe.out
    have hrl2 : r.length ≤ 1048576 := Nat.le_trans hrl HYL.out
    have HSM := Lib.hid hsm; clear hsm
    have hpe1 : pEnts ys (k + 1) = (pEntry r).map fun q => (t ++ [q.1], q.2) := by rw [pEnts, hpe.out]; rfl
    have HO := Lib.hid ho; have HTL := Lib.hid htl; have HPE1 := Lib.hid hpe1
    clear ho htl hpe1
    by_cases hlt : k < n
    · have HCB := Lib.hid (node_any (w.heap.size + 1) r wr HS.out.rd hrl2)
      rcases hok : pEntry r with _ | ⟨x, r2⟩
      · have hnn : pRead xs = none := HNONE.out (k + 1) (by rw [HPE1.out, hok]; rfl) hlt
        rw [hnn]
        rw [hok] at HCB
        clear hnn
        go_wp2_with fail
        refine HCB.out.mono ?_
        rintro e w9 hbad
        obtain ⟨c1, f1, hbs, c2⟩ := HS.out.bad hbad
        obtain ⟨⟨u, v, rfl⟩, -⟩ := hbad
        have HBS := Lib.hid hbs; have C2 := Lib.hid c2
        clear hbs c2
        go_wp2_with fail
        refine leaves_cons (f := 95) (args := #[.pointer (some ⟨w.heap.size, 0, none⟩)]) (by simp) (by simp [go_sem]) ?_
        refine (catch_panicking_n ⟨w.heap.size, 0, none⟩ 0 u v [] _ c1 f1).mono ?_
        rintro e u' w'' ⟨rfl, rfl, rfl⟩
        have c2 := C2.out
        simp [Leaves, settle, results, Try.results57, go_sem, c2]
        exact ⟨rfl, HBS.out⟩
      · have hpe2 : pEnts ys (k + 1) = some (t ++ [x], r2) := by rw [HPE1.out, hok]; rfl
        rw [hok] at HCB
        have HPE2 := Lib.hid hpe2; clear hpe2 HPE1 hok
        go_wp2_with fail
        refine HCB.out.mono ?_
        rintro e w3 ⟨rfl, hR3, hG3⟩
        unfold ndVal
        have hfl : (fillT t n).length = n := fillT_len (by rw [HTL.out]; omega)
        have hO3 := HO.out.only hG3 (.inr (by simp [Value.ownBlock]; omega))
        have hset := fillT_set (t := t) (n := n) (by rw [HTL.out]; exact hlt) x
        rw [HTL.out] at hset
        obtain ⟨hz, ⟨f0, f1, f2, f3⟩, hst, hbst⟩ := hO3.store hfl hlt x
        rw [hset] at hst
        have HST := Lib.hid hst
        have HS4 := Lib.hid ((HS.out.call hR3 hG3).low hbst hGs)
        obtain ⟨z0, z1, z2, z3⟩ := hz
        generalize ndOf (fillT t n) k = z at z0 z1 z2 z3
        clear hst hbst hset hO3 hfl hR3 hG3 HS
        go_wp2_with fail
        clear z0 z1 z2 z3 f0 f1 f2 f3
        go_roundw
        case rel => exact ⟨k + 1, t ++ [x], r2, by omega, by go_num, HPE2.out, HST.out, HS4⟩
        case measure => simp [intOf]; omega
    · have hkn : k = n := by omega
      subst hkn
      have ho := HO.out
      have hft : fillT t k = t := by rw [← HTL.out]; exact fillT_full
      rw [hft] at ho
      have HO2 := Lib.hid ho
      obtain ⟨ao', cap', e1, r1, -⟩ := ho.form
      simp only [Value.slice.injEq] at e1
      rw [← e1.1, HTL.out] at r1
      clear e1
      have hcall := isTable_any (some ⟨G, 0, none⟩) k k t wr r1 (Nat.le_refl _) (by omega) HSM.out
      have HCALL := Lib.hid hcall
      have hpt := HTAB.out t r hpe.out
      have HRL := Lib.hid (show r.length ≤ xs.length from Nat.le_trans hrl HYX.out)
      clear hcall ho hft r1 HPE1 hrl2 hrl
      rcases ht : isTable t with _ | _
      · rw [ht] at hpt HCALL
        rw [if_neg (by simp)] at hpt
        rw [hpt]
        have hreq := fun W => require_bad (.pointer (some ⟨w.heap.size + 1, 0, none⟩)) W (w.heap.size + 1)
        go_wp2_with fail
        refine HCALL.out.mono ?_
        rintro e w3 ⟨rfl, b3⟩
        replace HS := Lib.hid (HS.out.next b3); clear b3
        go_wp2_with fail
        refine (hreq _).mono ?_
        rintro e w9 hbad
        clear hreq
        obtain ⟨c1, f1, hbs, c2⟩ := HS.out.bad hbad
        obtain ⟨⟨u, v, rfl⟩, -⟩ := hbad
        have HBS := Lib.hid hbs; have C2 := Lib.hid c2
        clear hbs c2
        go_wp2_with fail
        refine leaves_cons (f := 95) (args := #[.pointer (some ⟨w.heap.size, 0, none⟩)]) (by simp) (by simp [go_sem]) ?_
        refine (catch_panicking_n ⟨w.heap.size, 0, none⟩ 0 u v [] _ c1 f1).mono ?_
        rintro e u' w'' ⟨rfl, rfl, rfl⟩
        have c2 := C2.out
        simp [Leaves, settle, results, Try.results57, go_sem, c2]
        exact ⟨rfl, HBS.out⟩
      · rw [ht] at hpt HCALL
        rw [if_pos rfl] at hpt
        have HPT := Lib.hid hpt; clear hpt
        have hreq := fun W => require_ok (.pointer (some ⟨w.heap.size + 1, 0, none⟩)) W
        go_wp2_with fail
        refine HCALL.out.mono ?_
        rintro e w3 ⟨rfl, b3⟩
        replace HS := Lib.hid (HS.out.next b3)
        have O3 := Lib.hid (HO2.out.below b3); clear b3
        go_wp2_with fail
        refine (hreq _).mono ?_
        rintro e w4 ⟨rfl, rfl⟩
        clear hreq HCALL HO HO2 HNONE HTAB HLS
        obtain ⟨ao2, cap2, hcell, c1, f1, hcell2, c2, f2, hB2⟩ := HS.out.done
        have HB2 := Lib.hid hB2; have C2 := Lib.hid c2
        have hO2 := old_n O3.out (grown_set w3 w.heap.size 0 (.int .i64 0)) (by omega)
        have HO2 := Lib.hid (hO2.more (base' := w.heap.size) (by omega))
        clear hO2 hB2 c2
        have hws : IntKind.i64.wrap ((xs.length : Int) - (r.length : Int)) = (xs.length : Int) - (r.length : Int) := by have := HRL.out; rw [IntKind.wrap_i64]; omega
        go_wp2_with fail
        refine wp_mono (h := ?_) (hq := fun e a w h => of_nopanic h)
        refine wp_region_held_drew (S := fun w' => w'.cell? ⟨w.heap.size + 1, 0, none⟩ = some (.slice ao2 r.length cap2) ∧ w'.cell? ⟨w.heap.size, 0, none⟩ = some (.int .i64 0) ∧ w'.frozen? ⟨w.heap.size, 0, none⟩ = false) (by kernel_rfl) (⟨hcell, c1, f1⟩) (fun hHeld => ?_)
        refine wpAnyH_take (i := 0) (v := ?_) rfl (by kernel_rfl) (by kernel_rfl) (by kernel_rfl) (fun _ _ _ h => h) (Or.inl ⟨by rfl, ?_⟩) (by assumption) ?_
        rotate_left
        · (intro w hSw; (try dsimp only at hSw); go_simp; (try with_reducible rfl))
        try simp only [List.getElem_toArray, List.getElem_cons_succ, List.getElem_cons_zero, Act.put, List.setIfInBounds_toArray, List.set_cons_zero, List.set_cons_succ]
        refine wpAnyH_take (i := 1) (v := ?_) rfl (by kernel_rfl) (by kernel_rfl) (by kernel_rfl) (fun _ _ _ h => h) (Or.inl ⟨by rfl, ?_⟩) (by assumption) ?_
        rotate_left
        · (intro w hSw; (try dsimp only at hSw); go_simp; (try with_reducible rfl))
        try simp only [List.getElem_toArray, List.getElem_cons_succ, List.getElem_cons_zero, Act.put, List.setIfInBounds_toArray, List.set_cons_zero, List.set_cons_succ]
        refine wpAnyH_take (i := 2) (v := ?_) rfl (by kernel_rfl) (by kernel_rfl) (by kernel_rfl) (fun _ _ _ h => h) (Or.inl ⟨by rfl, ?_⟩) (by assumption) ?_
        rotate_left
        · (intro w hSw; (try dsimp only at hSw); go_simp; (try with_reducible rfl))
        try simp only [List.getElem_toArray, List.getElem_cons_succ, List.getElem_cons_zero, Act.put, List.setIfInBounds_toArray, List.set_cons_zero, List.set_cons_succ]
        refine wpAnyH_take (i := 3) (v := ?_) rfl (by kernel_rfl) (by kernel_rfl) (by kernel_rfl) (fun _ _ _ h => h) (Or.inl ⟨by rfl, ?_⟩) (by assumption) ?_
        rotate_left
        · (intro w hSw; (try dsimp only at hSw); go_simp; (try with_reducible rfl))
        try simp only [List.getElem_toArray, List.getElem_cons_succ, List.getElem_cons_zero, Act.put, List.setIfInBounds_toArray, List.set_cons_zero, List.set_cons_succ]
        refine wpAnyH_take (i := 4) (v := ?_) rfl (by kernel_rfl) (by kernel_rfl) (by kernel_rfl) (fun _ _ _ h => h) (Or.inl ⟨by rfl, ?_⟩) (by assumption) ?_
        rotate_left
        · (intro w hSw; (try dsimp only at hSw); go_simp; (try with_reducible rfl))
        try simp only [List.getElem_toArray, List.getElem_cons_succ, List.getElem_cons_zero, Act.put, List.setIfInBounds_toArray, List.set_cons_zero, List.set_cons_succ]
        refine wpAnyH_take (i := 5) (v := ?_) rfl (by kernel_rfl) (by kernel_rfl) (by kernel_rfl) (fun _ _ _ h => h) (Or.inl ⟨by rfl, ?_⟩) (by assumption) ?_
        rotate_left
        · (intro w hSw; (try dsimp only at hSw); go_simp; (try with_reducible rfl))
        try simp only [List.getElem_toArray, List.getElem_cons_succ, List.getElem_cons_zero, Act.put, List.setIfInBounds_toArray, List.set_cons_zero, List.set_cons_succ]
        refine wpAnyH_take (i := 6) (v := ?_) rfl (by kernel_rfl) (by kernel_rfl) (by kernel_rfl) (fun _ _ _ h => h) (Or.inl ⟨by rfl, ?_⟩) (by assumption) ?_
        rotate_left
        · (intro w hSw; (try dsimp only at hSw); go_simp; (try with_reducible rfl))
        try simp only [List.getElem_toArray, List.getElem_cons_succ, List.getElem_cons_zero, Act.put, List.setIfInBounds_toArray, List.set_cons_zero, List.set_cons_succ]
        refine wpAnyH_take (i := 7) (v := ?_) rfl (by kernel_rfl) (by kernel_rfl) (by kernel_rfl) (fun _ _ _ h => h) (Or.inl ⟨by rfl, ?_⟩) (by assumption) ?_
        rotate_left
        · (intro w hSw; (try dsimp only at hSw); go_simp; (try with_reducible rfl))
        try simp only [List.getElem_toArray, List.getElem_cons_succ, List.getElem_cons_zero, Act.put, List.setIfInBounds_toArray, List.set_cons_zero, List.set_cons_succ]
        refine wpAnyH_take (i := 8) (v := ?_) rfl (by kernel_rfl) (by kernel_rfl) (by kernel_rfl) (fun _ _ _ h => h) (Or.inl ⟨by rfl, ?_⟩) (by assumption) ?_
        rotate_left
        · (intro w hSw; (try dsimp only at hSw); go_simp; (try with_reducible rfl))
        try simp only [List.getElem_toArray, List.getElem_cons_succ, List.getElem_cons_zero, Act.put, List.setIfInBounds_toArray, List.set_cons_zero, List.set_cons_succ]
        refine wpAnyH_take (i := 9) (v := ?_) rfl (by kernel_rfl) (by kernel_rfl) (by kernel_rfl) (fun _ _ _ h => h) (Or.inl ⟨by rfl, ?_⟩) (by assumption) ?_
        rotate_left
        · (intro w hSw; (try dsimp only at hSw); go_simp; (try with_reducible rfl))
        try simp only [List.getElem_toArray, List.getElem_cons_succ, List.getElem_cons_zero, Act.put, List.setIfInBounds_toArray, List.set_cons_zero, List.set_cons_succ]
        refine wpAnyH_take (i := 10) (v := ?_) rfl (by kernel_rfl) (by kernel_rfl) (by kernel_rfl) (fun _ _ _ h => h) (Or.inl ⟨by rfl, ?_⟩) (by assumption) ?_
        rotate_left
        · (intro w hSw; (try dsimp only at hSw); go_simp; (try with_reducible rfl))
        try simp only [List.getElem_toArray, List.getElem_cons_succ, List.getElem_cons_zero, Act.put, List.setIfInBounds_toArray, List.set_cons_zero, List.set_cons_succ]
        refine wpAnyH_ready (rs := [11]) (by kernel_rfl) (by simp) (AllReadyH.cons rfl (fun K hK => ?_) AllReadyH.nil)
        go_simp
        refine hK.out _ _ ?_ (fun hHeld => ?_)
        · exact ⟨hcell2, C2.out, f2⟩
        clear hK K
        try simp only [List.getElem_toArray, List.getElem_cons_succ, List.getElem_cons_zero, Act.put, List.setIfInBounds_toArray, List.set_cons_zero, List.set_cons_succ]
        refine wpAnyH_done (by kernel_rfl) ?_ _
        simp only [nopanic]
        have c2 := C2.out
        go_wp2_with fail
        refine leaves_cons (f := 95) (args := #[.pointer (some ⟨w.heap.size, 0, none⟩)]) (by simp) (by simp [go_sem]) ?_
        refine (catch_idle_n ⟨w.heap.size, 0, none⟩ _).mono ?_
        rintro e u' w'' ⟨rfl, rfl, rfl⟩
        simp [Leaves, settle, results, Try.results57, go_sem, c2]
        rw [HPT.out]
        exact ⟨_, rfl, HO2.out.below (Below.drew (Below.refl _ _)), Below.drew HB2.out⟩
theorem rt_range {xs : List Int} (h : isBytes xs = false) : readNodeTable xs = ([], 0, 2) := by unfold readNodeTable; rw [if_pos h]
theorem rt_none {xs : List Int} (h : isBytes xs = true) (h2 : readTab xs = none) : readNodeTable xs = ([], 0, 6) := by unfold readNodeTable; rw [if_neg (by rw [h]; simp), h2]
theorem rt_some {xs : List Int} {t : List Nd} {a : Nat} (h : isBytes xs = true) (h2 : readTab xs = some (t, a)) : readNodeTable xs = (t, (a : Int), 0) := by unfold readNodeTable; rw [if_neg (by rw [h]; simp), h2]
theorem readNodeTable_len (xs : List Int) : (readNodeTable xs).1.length ≤ 1048576 := by
  unfold readNodeTable
  split
  · simp
  · split
    · simp
    · rename_i p hp
      have := (isTable_iff.1 (readTab_yes hp).1).1
      simp only; omega
theorem pRead_rest {xs : List Int} {t : List Nd} {r : List Int} (hb : ∀ x ∈ xs, 0 ≤ x ∧ x ≤ 255) (h : pRead xs = some (t, r)) : r.length ≤ xs.length := by
  obtain ⟨-, h2⟩ := pRead_some hb h
  rw [h2, List.length_append]; omega
set_option maxRecDepth 100000 in
set_option maxHeartbeats 1000000 in
theorem readNodeTable_any (ao : Option Addr) (n cap : Nat) (xs : List Int) (w : World) (hr : Rd w ao n xs) (hn : n ≤ 1048576) (hcap : n ≤ cap) (hcap2 : cap ≤ 9223372036854775807) (hblk : ∀ a, ao = some a → a.block < w.heap.size) :
    Calls Try.prog 14 #[.slice ao n cap] w (MakesN3 59 w (readNodeTable xs).1 (readNodeTable xs).2.1 (readNodeTable xs).2.2) := by
  have hl := hr.len
  subst hl
  rcases hby : isBytes xs with _ | _
  · have HF := Lib.hid (rt_range hby)
    rw [HF.out]
    have HC := Lib.hid (readTable_range_n ao xs.length cap xs w hr hn hby)
    clear hr hblk
    go_enter Try.func14, Try.ntmps14
    go_wp2_with fail
    refine HC.out.mono ?_
    rintro e w' ⟨rfl, b1⟩
    go_wp2_with fail
    go_ret3
    exact ⟨_, rfl, OwnN.nil_, b1⟩
  obtain ⟨hl1, hin⟩ := isBytes_iff.1 hby
  have hpe := pRead_eq hin
  rcases hp : pRead xs with _ | ⟨t, r⟩
  · rw [hp] at hpe
    have HF := Lib.hid (rt_none hby hpe)
    rw [HF.out]
    have HC := Lib.hid ((by have h := readTable_any_n ao xs.length cap xs w hr hn hcap hcap2 hblk hby; rw [hp] at h; exact h : Calls Try.prog 57 #[.slice ao xs.length cap, .func (.func 58) #[] #[], .func (.func 18) #[] #[]] w (GotR_n w xs.length none)))
    clear hr hpe hblk hin
    go_enter Try.func14, Try.ntmps14
    go_wp2_with fail
    refine HC.out.mono ?_
    rintro e w1 ⟨rfl, b1⟩
    go_wp2_with fail
    go_ret3
    exact ⟨_, rfl, OwnN.nil_, b1⟩
  · rw [hp] at hpe
    have hrl := pRead_rest hin hp
    have HF := Lib.hid (rt_some hby hpe)
    have HC := Lib.hid ((by have h := readTable_any_n ao xs.length cap xs w hr hn hcap hcap2 hblk hby; rw [hp] at h; exact h : Calls Try.prog 57 #[.slice ao xs.length cap, .func (.func 58) #[] #[], .func (.func 18) #[] #[]] w (GotR_n w xs.length (some (t, r)))))
    have HE := Lib.hid (show ((xs.length : Int) - (r.length : Int)) = ((xs.length - r.length : Nat) : Int) from by omega)
    clear hr hpe hblk hin
    go_enter Try.func14, Try.ntmps14
    go_wp2_with fail
    refine HC.out.mono ?_
    rintro e w1 ⟨v, rfl, o1, b1⟩
    rw [HE.out]
    go_wp2_with fail
    go_ret3
    rw [HF.out]
    exact ⟨_, rfl, o1, b1⟩
end Go.Proofs.Ytpedlofckbplmaa
