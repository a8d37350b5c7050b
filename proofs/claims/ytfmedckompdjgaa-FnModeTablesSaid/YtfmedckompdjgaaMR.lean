/-
  Chapter 11: the program's reader of tables, which recovers; impl.ReadModeTable.
-/
import Derived.Test.YtfmedckompdjgaaMG
import Derived.Defers
import Derived.Recover
import Derived.Laws.Pointers
import Derived.BigQuiet
namespace Go.Proofs.Ytfmedckompdjgaa
open Go.RowKit

theorem catch_panicking_m (a : Addr) (x : Int) (u : TypeId) (pv : Value) (older : List PanicEntry) (w : World) (hc : w.cell? a = some (.int .i64 x)) (hz : w.frozen? a = false) :
    CallsD Try.prog 111 #[.pointer (some a)] (.panicking ({ v := .iface u pv, recovered := false } :: older)) w fun e u' w' =>
      e = .returned (.tuple #[]) ∧ u' = .panicking ({ v := .iface u pv, recovered := true } :: older) ∧ w' = w.setCell a (.int .i64 6) := by
  refine callsD_of_wpS Try.func111 rfl fun c₀ cs hu => ?_
  apply wpS_seq
  apply wpS_region
  simp [wpOpsS, go_sem, recoverD, hu, Try.ntmps111, Exit.thenS]
  refine wpS_cond (t := true) (by simp [Act.eval, Array.replicate]) ?_
  simp only [if_true]
  apply wpS_region
  simp [wpOpsS, go_sem, hc, hz, bodyPostS, results, Try.results111]
theorem catch_idle_m (a : Addr) (w : World) :
    CallsD Try.prog 111 #[.pointer (some a)] .returning w fun e u' w' => e = .returned (.tuple #[]) ∧ u' = .returning ∧ w' = w := by
  refine callsD_of_wpS Try.func111 rfl fun c₀ cs hu => ?_
  apply wpS_seq
  apply wpS_region
  simp [wpOpsS, go_sem, recoverD, hu, Try.ntmps111, Exit.thenS]
  refine wpS_cond (t := false) (by simp [Act.eval, Array.replicate]) ?_
  simp only [Bool.false_eq_true, if_false]
  refine wpS_of_wp (wp_skip ?_)
  cases c₀
  simp_all [bodyPostS, results, Try.results111]
/-- What readTable leaves. -/
def GotR_m (w : World) (n : Nat) (o : Option (List Md × List Int)) (e : Ending) (w' : World) : Prop :=
  match o with
  | some (t, r) => ∃ v, e = .returned (.tuple #[v, .int .i64 ((n : Int) - (r.length : Int)), .int .i64 0]) ∧ OwnMs 81 2 w' w.heap.size v t ∧ Below w.heap.size w w'
  | none => e = .returned (.tuple #[.slice none 0 0, .int .i64 0, .int .i64 6]) ∧ Below w.heap.size w w'
set_option maxRecDepth 100000 in
set_option maxHeartbeats 1000000 in
theorem readTable_range_m (ao : Option Addr) (n cap : Nat) (xs : List Int) (w : World) (hr : Rd w ao n xs) (hn : n ≤ 1048576) (hby : isBytes xs = false) :
    Calls Try.prog 75 #[.slice ao n cap, .func (.func 76) #[] #[]] w fun e w' => e = .returned (.tuple #[.slice none 0 0, .int .i64 0, .int .i64 2]) ∧ Below w.heap.size w w' := by
  have hb : Below w.heap.size w (w.alloc (.cells #[.int .i64 0] 2)) := (Below.refl _ _).alloc (Nat.le_refl _) _
  have HIB := Lib.hid (isBytes_any ao n cap xs _ (hr.below hb) (by omega))
  have hh : (w.alloc (.cells #[.int .i64 0] 2)).heap[w.heap.size]? = some (.cells #[.int .i64 0] 2 (0, 0)) := heap_alloc_new w _
  have h2 := heap_setCell_same _ w.heap.size 0 _ _ (.int .i64 2) hh
  have c1 : (w.alloc (.cells #[.int .i64 0] 2)).cell? ⟨w.heap.size, 0, none⟩ = some (.int .i64 0) := cell_of_row _ _ 0 _ _ _ hh
  have f1 : (w.alloc (.cells #[.int .i64 0] 2)).frozen? ⟨w.heap.size, 0, none⟩ = false := frozen_of_row _ _ 0 _ _ hh
  clear hr hb hh h2
  go_enter_defers Try.func75, Try.ntmps75
  go_wp2_with fail
  refine HIB.out.mono ?_
  rintro e w' ⟨rfl, rfl⟩
  rw [hby]
  go_wp2_with fail
  simp only [bodyPostD, Leaves]
  have c2 : (w.alloc (.cells #[.int .i64 2] 2)).cell? ⟨w.heap.size, 0, none⟩ = some (.int .i64 2) := new_cell rfl
  simp [results, Try.results75, go_sem, c2]
  exact (Below.refl _ _).alloc (Nat.le_refl _) _
set_option maxRecDepth 100000 in
set_option maxHeartbeats 1000000 in
theorem readTable_none_m (ao : Option Addr) (n cap : Nat) (xs : List Int) (w : World) (hr : Rd w ao n xs) (hn : n ≤ 1048576) (hcap : n ≤ cap) (hcap2 : cap ≤ 9223372036854775807) (hblk : ∀ a, ao = some a → a.block < w.heap.size) (hby : isBytes xs = true) (hp : pModes xs = none) :
    Calls Try.prog 75 #[.slice ao n cap, .func (.func 76) #[] #[]] w (GotR_m w n none) := by
  have hl := hr.len
  subst hl
  have hmf : ∀ (fn : Fn) (first cap : Array Value) (w : World), (Instr.makeFunc fn first cap).run Try.prog w = .ok (.func fn first cap) w := fun _ _ _ _ => rfl
  obtain ⟨wa, hwa⟩ : ∃ wa, wa = w.alloc (.cells #[.int .i64 0] 2) := ⟨_, rfl⟩
  have hb : Below w.heap.size w wa := by rw [hwa]; exact (Below.refl _ _).alloc (Nat.le_refl _) _
  have hsa : wa.heap.size = w.heap.size + 1 := by rw [hwa]; simp
  have HIB := Lib.hid (isBytes_any ao xs.length cap xs wa (hr.below hb) (by omega))
  have hba : wa.heap[w.heap.size]? = some (.cells #[.int .i64 0] 2 (0, 0)) := by rw [hwa]; exact heap_alloc_new w _
  obtain ⟨hl1, hin⟩ := isBytes_iff.1 hby
  have hb2 : Below wa.heap.size wa (wa.alloc (.cells #[.slice ao xs.length cap] 113)) := (Below.refl _ _).alloc (Nat.le_refl _) _
  have hR : RdrAt (wa.alloc (.cells #[.slice ao xs.length cap] 113)) (w.heap.size + 1) xs := ⟨ao, cap, by rw [← hsa]; exact heap_alloc_new wa _, (hr.below hb).below hb2, hcap, hcap2, fun a e => by have := hblk a e; omega, hin⟩
  have HC := Lib.hid (modes_any _ xs _ hR hn)
  have HH := Lib.hid ((hb2.block w.heap.size (by omega)).trans hba)
  have HB := Lib.hid (below_two hb hb2)
  have HSA := Lib.hid hsa
  clear hb hba hb2 hR hblk hin hr hl1
  rw [hwa] at HIB HC HH HB HSA
  clear hwa hsa wa
  go_enter_defers Try.func75, Try.ntmps75
  go_wp2_with fail
  refine HIB.out.mono ?_
  rintro e w' ⟨rfl, rfl⟩
  rw [hby]
  go_wp2_with fail
  refine HC.out.mono ?_
  rintro e w1 hg
  rw [hp] at hg
  obtain ⟨⟨u, v, rfl⟩, g1⟩ := hg
  have h1 : w1.heap[w.heap.size]? = some (.cells #[.int .i64 0] 2 (0, 0)) := (g1.block w.heap.size (by have := HH.out; exact (Array.getElem?_eq_some_iff.1 this).1) (by simp)).trans HH.out
  have c1 : w1.cell? ⟨w.heap.size, 0, none⟩ = some (.int .i64 0) := cell_of_row w1 _ 0 _ _ _ h1
  have f1 : w1.frozen? ⟨w.heap.size, 0, none⟩ = false := frozen_of_row w1 _ 0 _ _ h1
  have B1 := Lib.hid (HB.out.grown g1 HB.out.size (fun k hk => by cases hk; omega))
  go_wp2_with fail
  refine leaves_cons (f := 111) (args := #[.pointer (some ⟨w.heap.size, 0, none⟩)]) (by simp) (by simp [go_sem]) ?_
  refine (catch_panicking_m ⟨w.heap.size, 0, none⟩ 0 u v [] _ c1 f1).mono ?_
  rintro e u' w'' ⟨rfl, rfl, rfl⟩
  have h2 := heap_setCell_same w1 w.heap.size 0 _ _ (.int .i64 6) h1
  have c2 : (w1.setCell ⟨w.heap.size, 0, none⟩ (.int .i64 6)).cell? ⟨w.heap.size, 0, none⟩ = some (.int .i64 6) := by
    rw [cell_of_row _ _ 0 _ _ _ h2]; rfl
  have hbs := B1.out.trans ((Below.refl w.heap.size w1).setCell (p := ⟨w.heap.size, 0, none⟩) (by exact Nat.le_refl _) (.int .i64 6))
  simp [Leaves, settle, results, Try.results75, go_sem, c2]
  exact ⟨rfl, hbs⟩
set_option maxRecDepth 100000 in
set_option maxHeartbeats 2000000 in
set_option linter.unusedSimpArgs false in
theorem readTable_some_m (ao : Option Addr) (n cap : Nat) (xs : List Int) (w : World) (hr : Rd w ao n xs) (hn : n ≤ 1048576) (hcap : n ≤ cap) (hcap2 : cap ≤ 9223372036854775807) (hblk : ∀ a, ao = some a → a.block < w.heap.size) (hby : isBytes xs = true) (t : List Md) (r : List Int) (hp : pModes xs = some (t, r)) (hrl : r.length ≤ xs.length) :
    Calls Try.prog 75 #[.slice ao n cap, .func (.func 76) #[] #[]] w (GotR_m w n (some (t, r))) := by
  have hl := hr.len
  subst hl
  have hmf : ∀ (fn : Fn) (first cap : Array Value) (w : World), (Instr.makeFunc fn first cap).run Try.prog w = .ok (.func fn first cap) w := fun _ _ _ _ => rfl
  obtain ⟨wa, hwa⟩ : ∃ wa, wa = w.alloc (.cells #[.int .i64 0] 2) := ⟨_, rfl⟩
  have hb : Below w.heap.size w wa := by rw [hwa]; exact (Below.refl _ _).alloc (Nat.le_refl _) _
  have hsa : wa.heap.size = w.heap.size + 1 := by rw [hwa]; simp
  have HIB := Lib.hid (isBytes_any ao xs.length cap xs wa (hr.below hb) (by omega))
  have hba : wa.heap[w.heap.size]? = some (.cells #[.int .i64 0] 2 (0, 0)) := by rw [hwa]; exact heap_alloc_new w _
  obtain ⟨hl1, hin⟩ := isBytes_iff.1 hby
  have hb2 : Below wa.heap.size wa (wa.alloc (.cells #[.slice ao xs.length cap] 113)) := (Below.refl _ _).alloc (Nat.le_refl _) _
  have hs2 : (wa.alloc (.cells #[.slice ao xs.length cap] 113)).heap.size = w.heap.size + 2 := by simp [hsa]
  have hR : RdrAt (wa.alloc (.cells #[.slice ao xs.length cap] 113)) (w.heap.size + 1) xs := ⟨ao, cap, by rw [← hsa]; exact heap_alloc_new wa _, (hr.below hb).below hb2, hcap, hcap2, fun a e => by have := hblk a e; omega, hin⟩
  have HC := Lib.hid (modes_any _ xs _ hR hn)
  have HH := Lib.hid ((hb2.block w.heap.size (by omega)).trans hba)
  have HB := Lib.hid (below_two hb hb2)
  have HS2 := Lib.hid hs2
  have HSA := Lib.hid hsa
  clear hb hba hb2 hR hblk hin hr hl1 hs2
  rw [hwa] at HIB HC HH HB HS2 HSA
  clear hwa hsa wa
  go_enter_defers Try.func75, Try.ntmps75
  go_wp2_with fail
  refine HIB.out.mono ?_
  rintro e w' ⟨rfl, rfl⟩
  rw [hby]
  go_wp2_with fail
  refine HC.out.mono ?_
  rintro e w1 hg
  rw [hp] at hg
  obtain ⟨v, rfl, o1, r1, g1⟩ := hg
  rw [HS2.out] at o1
  have h1 : w1.heap[w.heap.size]? = some (.cells #[.int .i64 0] 2 (0, 0)) := (g1.block w.heap.size (by have := HH.out; exact (Array.getElem?_eq_some_iff.1 this).1) (by simp)).trans HH.out
  have c1 : w1.cell? ⟨w.heap.size, 0, none⟩ = some (.int .i64 0) := cell_of_row w1 _ 0 _ _ _ h1
  have f1 : w1.frozen? ⟨w.heap.size, 0, none⟩ = false := frozen_of_row w1 _ 0 _ _ h1
  have h2 := heap_setCell_same w1 w.heap.size 0 _ _ (.int .i64 0) h1
  have c2 : (w1.setCell ⟨w.heap.size, 0, none⟩ (.int .i64 0)).cell? ⟨w.heap.size, 0, none⟩ = some (.int .i64 0) := by
    rw [cell_of_row _ _ 0 _ _ _ h2]; rfl
  have hO2 := OwnMs.old o1 (grown_set w1 w.heap.size 0 (.int .i64 0)) (by omega)
  have hB2 := (HB.out.grown g1 HB.out.size (fun k hk => by cases hk; omega)).trans ((Below.refl w.heap.size w1).setCell (p := ⟨w.heap.size, 0, none⟩) (by exact Nat.le_refl _) (.int .i64 0))
  obtain ⟨ao2, cap2, hh, -, -, -, -, -⟩ := r1
  have hcell : w1.cell? ⟨w.heap.size + 1, 0, none⟩ = some (.slice ao2 r.length cap2) := cell_of_row w1 _ 0 _ _ _ hh
  have hcell2 : (w1.setCell ⟨w.heap.size, 0, none⟩ (.int .i64 0)).cell? ⟨w.heap.size + 1, 0, none⟩ = some (.slice ao2 r.length cap2) := cell_of_row _ _ 0 _ _ _ ((heap_setCell_other w1 _ _ _ (by simp)).trans hh)
  have f2 : (w1.setCell ⟨w.heap.size, 0, none⟩ (.int .i64 0)).frozen? ⟨w.heap.size, 0, none⟩ = false := frozen_of_row _ _ 0 _ _ h2
  have hws : IntKind.i64.wrap ((xs.length : Int) - (r.length : Int)) = (xs.length : Int) - (r.length : Int) := by rw [IntKind.wrap_i64]; omega
  have HO2 := Lib.hid (hO2.more (base' := w.heap.size) (by omega)); have HB2 := Lib.hid hB2; have C2 := Lib.hid c2
  clear g1 o1 hh h2 h1 hO2 hB2 c2 HC HIB HH
  go_wp2_with fail
  refine wp_mono (h := ?_) (hq := fun e a w h => of_nopanic h)
  refine wp_region_held_drew (S := fun w' => w'.cell? ⟨w.heap.size + 1, 0, none⟩ = some (.slice ao2 r.length cap2) ∧ w'.cell? ⟨w.heap.size, 0, none⟩ = some (.int .i64 0) ∧ w'.frozen? ⟨w.heap.size, 0, none⟩ = false) (by kernel_rfl) (⟨hcell, c1, f1⟩) (fun hHeld => ?_)
  refine wpAnyH_take (i := 0) (v := ?_) rfl (by kernel_rfl) (by kernel_rfl) (by kernel_rfl) (fun _ _ _ h => h) (Or.inl ⟨by rfl, ?_⟩) (by assumption) ?_
  rotate_left
  · (intro w hSw; (try dsimp only at hSw); go_simp; (try with_reducible rfl))
  try simp only [List.getElem_toArray, List.getElem_cons_succ, List.getElem_cons_zero, Act.put, List.setIfInBounds_toArray, List.set_cons_zero, List.set_cons_succ]
  refine wpAnyH_take (i := 1) (v := ?_) rfl (by kernel_rfl) (by kernel_rfl) (by kernel_rfl) (fun _ _ _ h => h) (Or.inl ⟨by rfl, ?_⟩) (by assumption) ?_
  rotate_left
  · (intro w hSw; (try dsimp only at hSw); go_simp; (try with_reducible rfl))
  try simp only [List.getElem_toArray, List.getElem_cons_succ, List.getElem_cons_zero, Act.put, List.setIfInBounds_toArray, List.set_cons_zero, List.set_cons_succ]
  refine wpAnyH_take (i := 2) (v := ?_) rfl (by kernel_rfl) (by kernel_rfl) (by kernel_rfl) (fun _ _ _ h => h) (Or.inl ⟨by rfl, ?_⟩) (by assumption) ?_
  rotate_left
  · (intro w hSw; (try dsimp only at hSw); go_simp; (try with_reducible rfl))
  try simp only [List.getElem_toArray, List.getElem_cons_succ, List.getElem_cons_zero, Act.put, List.setIfInBounds_toArray, List.set_cons_zero, List.set_cons_succ]
  refine wpAnyH_take (i := 3) (v := ?_) rfl (by kernel_rfl) (by kernel_rfl) (by kernel_rfl) (fun _ _ _ h => h) (Or.inl ⟨by rfl, ?_⟩) (by assumption) ?_
  rotate_left
  · (intro w hSw; (try dsimp only at hSw); go_simp; (try with_reducible rfl))
  try simp only [List.getElem_toArray, List.getElem_cons_succ, List.getElem_cons_zero, Act.put, List.setIfInBounds_toArray, List.set_cons_zero, List.set_cons_succ]
  refine wpAnyH_take (i := 4) (v := ?_) rfl (by kernel_rfl) (by kernel_rfl) (by kernel_rfl) (fun _ _ _ h => h) (Or.inl ⟨by rfl, ?_⟩) (by assumption) ?_
  rotate_left
  · (intro w hSw; (try dsimp only at hSw); go_simp; (try with_reducible rfl))
  try simp only [List.getElem_toArray, List.getElem_cons_succ, List.getElem_cons_zero, Act.put, List.setIfInBounds_toArray, List.set_cons_zero, List.set_cons_succ]
  refine wpAnyH_take (i := 5) (v := ?_) rfl (by kernel_rfl) (by kernel_rfl) (by kernel_rfl) (fun _ _ _ h => h) (Or.inl ⟨by rfl, ?_⟩) (by assumption) ?_
  rotate_left
  · (intro w hSw; (try dsimp only at hSw); go_simp; (try with_reducible rfl))
  try simp only [List.getElem_toArray, List.getElem_cons_succ, List.getElem_cons_zero, Act.put, List.setIfInBounds_toArray, List.set_cons_zero, List.set_cons_succ]
  refine wpAnyH_take (i := 6) (v := ?_) rfl (by kernel_rfl) (by kernel_rfl) (by kernel_rfl) (fun _ _ _ h => h) (Or.inl ⟨by rfl, ?_⟩) (by assumption) ?_
  rotate_left
  · (intro w hSw; (try dsimp only at hSw); go_simp; (try with_reducible rfl))
  try simp only [List.getElem_toArray, List.getElem_cons_succ, List.getElem_cons_zero, Act.put, List.setIfInBounds_toArray, List.set_cons_zero, List.set_cons_succ]
  refine wpAnyH_take (i := 7) (v := ?_) rfl (by kernel_rfl) (by kernel_rfl) (by kernel_rfl) (fun _ _ _ h => h) (Or.inl ⟨by rfl, ?_⟩) (by assumption) ?_
  rotate_left
  · (intro w hSw; (try dsimp only at hSw); go_simp; (try with_reducible rfl))
  try simp only [List.getElem_toArray, List.getElem_cons_succ, List.getElem_cons_zero, Act.put, List.setIfInBounds_toArray, List.set_cons_zero, List.set_cons_succ]
  refine wpAnyH_take (i := 8) (v := ?_) rfl (by kernel_rfl) (by kernel_rfl) (by kernel_rfl) (fun _ _ _ h => h) (Or.inl ⟨by rfl, ?_⟩) (by assumption) ?_
  rotate_left
  · (intro w hSw; (try dsimp only at hSw); go_simp; (try with_reducible rfl))
  try simp only [List.getElem_toArray, List.getElem_cons_succ, List.getElem_cons_zero, Act.put, List.setIfInBounds_toArray, List.set_cons_zero, List.set_cons_succ]
  refine wpAnyH_take (i := 9) (v := ?_) rfl (by kernel_rfl) (by kernel_rfl) (by kernel_rfl) (fun _ _ _ h => h) (Or.inl ⟨by rfl, ?_⟩) (by assumption) ?_
  rotate_left
  · (intro w hSw; (try dsimp only at hSw); go_simp; (try with_reducible rfl))
  try simp only [List.getElem_toArray, List.getElem_cons_succ, List.getElem_cons_zero, Act.put, List.setIfInBounds_toArray, List.set_cons_zero, List.set_cons_succ]
  refine wpAnyH_take (i := 10) (v := ?_) rfl (by kernel_rfl) (by kernel_rfl) (by kernel_rfl) (fun _ _ _ h => h) (Or.inl ⟨by rfl, ?_⟩) (by assumption) ?_
  rotate_left
  · (intro w hSw; (try dsimp only at hSw); go_simp; (try with_reducible rfl))
  try simp only [List.getElem_toArray, List.getElem_cons_succ, List.getElem_cons_zero, Act.put, List.setIfInBounds_toArray, List.set_cons_zero, List.set_cons_succ]
  refine wpAnyH_ready (rs := [11]) (by kernel_rfl) (by simp) (AllReadyH.cons rfl (fun K hK => ?_) AllReadyH.nil)
  go_simp
  refine hK.out _ _ ?_ (fun hHeld => ?_)
  · exact ⟨hcell2, C2.out, f2⟩
  clear hK K
  try simp only [List.getElem_toArray, List.getElem_cons_succ, List.getElem_cons_zero, Act.put, List.setIfInBounds_toArray, List.set_cons_zero, List.set_cons_succ]
  refine wpAnyH_done (by kernel_rfl) ?_ _
  simp only [nopanic]
  have c2 := C2.out
  go_wp2_with fail
  refine leaves_cons (f := 111) (args := #[.pointer (some ⟨w.heap.size, 0, none⟩)]) (by simp) (by simp [go_sem]) ?_
  refine (catch_idle_m ⟨w.heap.size, 0, none⟩ _).mono ?_
  rintro e u' w'' ⟨rfl, rfl, rfl⟩
  simp [Leaves, settle, results, Try.results75, go_sem, c2]
  exact ⟨_, rfl, HO2.out.below (Below.drew (Below.refl _ _)), Below.drew HB2.out⟩
theorem rm_range {xs : List Int} (h : isBytes xs = false) : readModeTable xs = ([], 0, 2) := by unfold readModeTable; rw [if_pos h]
theorem rm_none {xs : List Int} (h : isBytes xs = true) (h2 : readModes xs = none) : readModeTable xs = ([], 0, 6) := by unfold readModeTable; rw [if_neg (by rw [h]; simp), h2]
theorem rm_some {xs : List Int} {t : List Md} {a : Nat} (h : isBytes xs = true) (h2 : readModes xs = some (t, a)) : readModeTable xs = (t, (a : Int), 0) := by unfold readModeTable; rw [if_neg (by rw [h]; simp), h2]
set_option maxRecDepth 100000 in
set_option maxHeartbeats 1000000 in
theorem readModesI_any (ao : Option Addr) (n cap : Nat) (xs : List Int) (w : World) (hr : Rd w ao n xs) (hn : n ≤ 1048576) (hcap : n ≤ cap) (hcap2 : cap ≤ 9223372036854775807) (hblk : ∀ a, ao = some a → a.block < w.heap.size) :
    Calls Try.prog 29 #[.slice ao n cap] w (MakesM3 81 2 w (readModeTable xs).1 (readModeTable xs).2.1 (readModeTable xs).2.2) := by
  have hl := hr.len
  subst hl
  rcases hby : isBytes xs with _ | _
  · have HF := Lib.hid (rm_range hby)
    rw [HF.out]
    have HC := Lib.hid (readTable_range_m ao xs.length cap xs w hr hn hby)
    clear hr hblk
    go_enter Try.func29, Try.ntmps29
    go_wp2_with fail
    refine HC.out.mono ?_
    rintro e w' ⟨rfl, b1⟩
    go_wp2_with fail
    go_ret3
    exact ⟨_, rfl, OwnMs.nil_, b1⟩
  have hpe := pModes_eq xs
  rcases hp : pModes xs with _ | ⟨t, r⟩
  · rw [hp] at hpe
    have HF := Lib.hid (rm_none hby hpe)
    rw [HF.out]
    have HC := Lib.hid (readTable_none_m ao xs.length cap xs w hr hn hcap hcap2 hblk hby hp)
    clear hr hpe hblk
    go_enter Try.func29, Try.ntmps29
    go_wp2_with fail
    refine HC.out.mono ?_
    rintro e w1 ⟨rfl, b1⟩
    go_wp2_with fail
    go_ret3
    exact ⟨_, rfl, OwnMs.nil_, b1⟩
  · rw [hp] at hpe
    have hrl := (pModes_rest hp).1
    have HF := Lib.hid (rm_some hby hpe)
    have HC := Lib.hid (readTable_some_m ao xs.length cap xs w hr hn hcap hcap2 hblk hby t r hp hrl)
    have HE := Lib.hid (show ((xs.length : Int) - (r.length : Int)) = ((xs.length - r.length : Nat) : Int) from by omega)
    clear hr hpe hblk
    go_enter Try.func29, Try.ntmps29
    go_wp2_with fail
    refine HC.out.mono ?_
    rintro e w1 ⟨v, rfl, o1, b1⟩
    rw [HE.out]
    go_wp2_with fail
    go_ret3
    rw [HF.out]
    exact ⟨_, rfl, o1, b1⟩
end Go.Proofs.Ytfmedckompdjgaa
