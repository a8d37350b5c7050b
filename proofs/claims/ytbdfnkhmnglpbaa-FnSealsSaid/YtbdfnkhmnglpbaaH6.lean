/-
  Chapter 7: l07Open of the model.
-/
import Derived.Test.YtbdfnkhmnglpbaaH5
import Derived.Test.YtbdfnkhmnglpbaaGG
namespace Go.Proofs.Ytbdfnkhmnglpbaa
open Go.RowKit

set_option linter.unusedSimpArgs false in
set_option linter.unusedVariables false in
set_option maxHeartbeats 1000000 in
set_option maxRecDepth 100000 in
theorem so_C (id t m r s k : Int) (ao : Option Addr) (cap n : Nat) (w : World) (hl : n < 4) : Calls Try.prog 93 #[.slice ao n cap, .int .i64 id, .agg #[.int .i64 t, .int .i64 m, .int .i64 r, .int .i64 s, .int .i64 k]] w (GivesFB w Fr.zero (.int .i64 6)) := by
  have S0 := Lib.hid (OpenSt.start (t := t) (m := m) (r := r) (s := s) (k := k) w)
  have hw : IntKind.i64.wrap ((n : Int) - 3) = (n : Int) - 3 := by rw [IntKind.wrap_i64]; omega
  have hlt : ((n : Int) - 3 < 1) := by omega
  go_enter Try.func93, Try.ntmps93
  go_upto_region 1 with fail
  generalize (w.alloc (.cells #[.int .i64 t, .int .i64 m, .int .i64 r, .int .i64 s, .int .i64 k] 25)).alloc (.cells #[.int .i64 0, .int .i64 0, .int .i64 0, .int .i64 0, .int .i64 0, .int .i64 0, .int .i64 0, .slice none 0 0] 28) = w0 at S0 ⊢
  have rc0 := S0.out.res.c0
  have rf0 := S0.out.res.f 0
  have rc1 := S0.out.res.c1
  have rf1 := S0.out.res.f 1
  have rc2 := S0.out.res.c2
  have rf2 := S0.out.res.f 2
  have rc3 := S0.out.res.c3
  have rf3 := S0.out.res.f 3
  have rc4 := S0.out.res.c4
  have rf4 := S0.out.res.f 4
  have rc5 := S0.out.res.c5
  have rf5 := S0.out.res.f 5
  have rc6 := S0.out.res.c6
  have rf6 := S0.out.res.f 6
  have rc7 := S0.out.res.c7
  have rf7 := S0.out.res.f 7
  go_wp2_with fail
  clear rc0 rf0 rc1 rf1 rc2 rf2 rc3 rf3 rc4 rf4 rc5 rf5 rc6 rf6 rc7 rf7
  change bodyPost _ _ _ _ _ (setEight w0 (w.heap.size + 1) 0 0 0 0 0 0 0 (.slice none 0 0))
  obtain ⟨SF, BF⟩ := S0.out.fin 0 0 0 0 0 0 0 (.slice none 0 0)
  generalize setEight w0 (w.heap.size + 1) 0 0 0 0 0 0 0 (.slice none 0 0) = wz at SF BF ⊢
  have e0 := SF.c0
  have e1 := SF.c1
  have e2 := SF.c2
  have e3 := SF.c3
  have e4 := SF.c4
  have e5 := SF.c5
  have e6 := SF.c6
  have e7 := SF.c7
  exact bodyPost_ret (v := .tuple #[.agg #[.int .i64 0, .int .i64 0, .int .i64 0, .int .i64 0, .int .i64 0, .int .i64 0, .int .i64 0, .slice none 0 0], .int .i64 6]) (by simp [results, Try.results93, go_sem, e0, e1, e2, e3, e4, e5, e6, e7]) rfl ⟨_, _, rfl, Own.nil_, BF⟩
set_option linter.unusedSimpArgs false in
set_option linter.unusedVariables false in
set_option maxHeartbeats 1000000 in
set_option maxRecDepth 100000 in
theorem so_D (b off c : Nat) (id t m r s k h x p0 p1 p2 : Int) (ys xs : List Int) (w : World) (hr : Rd w (some ⟨b, off, none⟩) (ys.length + 3) xs) (hn : ys.length + 3 ≤ 1024) (hnc : ys.length ≤ c) (hcap2 : c + 3 ≤ 9223372036854775807) (hi : inRange 0 16777215 id = true) (hl : 1 ≤ ys.length) (hh : xs.getD 0 0 = h) (hh2 : 0 ≤ h ∧ h ≤ 255) (hy : xs.take ys.length = ys) (hp0 : xs.getD ys.length 0 = p0) (hp1 : xs.getD (ys.length + 1) 0 = p1) (hp2 : xs.getD (ys.length + 2) 0 = p2) (hb0 : 0 ≤ p0 ∧ p0 ≤ 255) (hb1 : 0 ≤ p1 ∧ p1 ≤ 255) (hb2 : 0 ≤ p2 ∧ p2 ≤ 255) (hx : sealNum (h / 64) id t m r s k ys = x) (hd : (x != p0 * 65536 + p1 * 256 + p2) = true) : Calls Try.prog 93 #[.slice (some ⟨b, off, none⟩) (ys.length + 3) (c + 3), .int .i64 id, .agg #[.int .i64 t, .int .i64 m, .int .i64 r, .int .i64 s, .int .i64 k]] w (GivesFB w Fr.zero (.int .i64 7)) := by
  have S0 := Lib.hid (OpenSt.start (t := t) (m := m) (r := r) (s := s) (k := k) w)
  obtain ⟨b', off', e', hat⟩ := (hr.below S0.out.below).here (by omega)
  cases e'
  have hc0 := hat 0 (by omega)
  rw [hh, Nat.add_zero] at hc0
  have hq0 := hat ys.length (by omega)
  rw [hp0] at hq0
  have hq1 := hat (ys.length + 1) (by omega)
  rw [hp1] at hq1
  have hq2 := hat (ys.length + 2) (by omega)
  rw [hp2] at hq2
  clear hat hh hp0 hp1 hp2
  have h1 := hr.first (a := ys.length) (by omega)
  rw [hy] at h1
  have R1 := Lib.hid h1
  clear h1
  have HX := Lib.hid hx; have HID := Lib.hid (inRange_iff.1 hi); have HD := Lib.hid hd
  have HBL : Hid (b < w.heap.size) := Lib.hid (by obtain ⟨_, _, e2, hl2⟩ := hr.block (by omega); cases e2; exact hl2)
  clear hr hi hy hx hd
  have hw : IntKind.i64.wrap ((ys.length : Int) + 3 - 3) = (ys.length : Int) := by rw [IntKind.wrap_i64]; omega
  have hlt : ¬ ((ys.length : Int) < 1) := by omega
  have h0c : (ys.length : Int) ≤ (c : Int) + 3 := by omega
  have h1c : (ys.length : Int) < (ys.length : Int) + 3 := by omega
  have h2c : (ys.length : Int) + 1 < (ys.length : Int) + 3 := by omega
  have h3c : (ys.length : Int) + 2 < (ys.length : Int) + 3 := by omega
  have h7c : (0 : Int) < (ys.length : Int) + 3 := by omega
  have h4c : (0 : Int) ≤ (ys.length : Int) + 1 := by omega
  have h5c : (0 : Int) ≤ (ys.length : Int) + 2 := by omega
  have h6c : ((ys.length : Int) + 2).toNat = ys.length + 2 := by omega
  have w1' : IntKind.i64.wrap (p0 * 65536) = p0 * 65536 := by rw [IntKind.wrap_i64]; omega
  have w2' : IntKind.i64.wrap (p1 * 256) = p1 * 256 := by rw [IntKind.wrap_i64]; omega
  have w3' : IntKind.i64.wrap (p0 * 65536 + p1 * 256) = p0 * 65536 + p1 * 256 := by rw [IntKind.wrap_i64]; omega
  have w4' : IntKind.i64.wrap (p0 * 65536 + p1 * 256 + p2) = p0 * 65536 + p1 * 256 + p2 := by rw [IntKind.wrap_i64]; omega
  have w5' : IntKind.i64.wrap ((ys.length : Int) + 1) = (ys.length : Int) + 1 := by rw [IntKind.wrap_i64]; omega
  have w6' : IntKind.i64.wrap ((ys.length : Int) + 2) = (ys.length : Int) + 2 := by rw [IntKind.wrap_i64]; omega
  have hd1 : IntKind.i64.wrap (h.tdiv 64) = h / 64 := by rw [Int.tdiv_eq_ediv_of_nonneg hh2.1, IntKind.wrap_i64]; omega
  go_enter Try.func93, Try.ntmps93
  go_upto_region 1 with fail
  generalize (w.alloc (.cells #[.int .i64 t, .int .i64 m, .int .i64 r, .int .i64 s, .int .i64 k] 25)).alloc (.cells #[.int .i64 0, .int .i64 0, .int .i64 0, .int .i64 0, .int .i64 0, .int .i64 0, .int .i64 0, .slice none 0 0] 28) = w0 at S0 hc0 hq0 hq1 hq2 ⊢
  go_upto_region 4 with fail
  have S1 := Lib.hid S0.out.drew
  clear S0
  refine wp_region_held_drew (S := fun w' => w'.cell? ⟨b, off + ys.length, none⟩ = some (.int .i64 p0) ∧ w'.cell? ⟨b, off + (ys.length + 1), none⟩ = some (.int .i64 p1) ∧ w'.cell? ⟨b, off + (ys.length + 2), none⟩ = some (.int .i64 p2)) (by kernel_rfl) (⟨hq0, hq1, hq2⟩) (fun hHeld => ?_)
  refine wpAnyH_take (i := 0) (v := ?_) rfl (by kernel_rfl) (by kernel_rfl) (by kernel_rfl) (fun _ _ _ h => h) (Or.inl ⟨by rfl, ?_⟩) (by assumption) ?_
  rotate_left
  · (intro w hSw; (try dsimp only at hSw); go_simp; (try with_reducible rfl))
  try simp only [List.getElem_toArray, List.getElem_cons_succ, List.getElem_cons_zero, Act.put, List.setIfInBounds_toArray, List.set_cons_zero, List.set_cons_succ]
  refine wpAnyH_take (i := 1) (v := ?_) rfl (by kernel_rfl) (by kernel_rfl) (by kernel_rfl) (fun _ _ _ h => h) (Or.inl ⟨by rfl, ?_⟩) (by assumption) ?_
  rotate_left
  · (intro w hSw; (try dsimp only at hSw); go_simp; (try with_reducible rfl))
  try simp only [List.getElem_toArray, List.getElem_cons_succ, List.getElem_cons_zero, Act.put, List.setIfInBounds_toArray, List.set_cons_zero, List.set_cons_succ]
  refine wpAnyH_take (i := 2) (v := ?_) rfl (by kernel_rfl) (by kernel_rfl) (by kernel_rfl) (fun _ _ _ h => h) (Or.inl ⟨by rfl, ?_⟩) (by assumption) ?_
  rotate_left
  · (intro w hSw; (try dsimp only at hSw); go_simp; (try with_reducible rfl))
  try simp only [List.getElem_toArray, List.getElem_cons_succ, List.getElem_cons_zero, Act.put, List.setIfInBounds_toArray, List.set_cons_zero, List.set_cons_succ]
  refine wpAnyH_take (i := 3) (v := ?_) rfl (by kernel_rfl) (by kernel_rfl) (by kernel_rfl) (fun _ _ _ h => h) (Or.inl ⟨by rfl, ?_⟩) (by assumption) ?_
  rotate_left
  · (intro w hSw; (try dsimp only at hSw); go_simp; (try with_reducible rfl))
  try simp only [List.getElem_toArray, List.getElem_cons_succ, List.getElem_cons_zero, Act.put, List.setIfInBounds_toArray, List.set_cons_zero, List.set_cons_succ]
  refine wpAnyH_take (i := 4) (v := ?_) rfl (by kernel_rfl) (by kernel_rfl) (by kernel_rfl) (fun _ _ _ h => h) (Or.inl ⟨by rfl, ?_⟩) (by assumption) ?_
  rotate_left
  · (intro w hSw; (try dsimp only at hSw); go_simp; (try with_reducible rfl))
  try simp only [List.getElem_toArray, List.getElem_cons_succ, List.getElem_cons_zero, Act.put, List.setIfInBounds_toArray, List.set_cons_zero, List.set_cons_succ]
  refine wpAnyH_take (i := 5) (v := ?_) rfl (by kernel_rfl) (by kernel_rfl) (by kernel_rfl) (fun _ _ _ h => h) (Or.inl ⟨by rfl, ?_⟩) (by assumption) ?_
  rotate_left
  · (intro w hSw; (try dsimp only at hSw); go_simp; (try with_reducible rfl))
  try simp only [List.getElem_toArray, List.getElem_cons_succ, List.getElem_cons_zero, Act.put, List.setIfInBounds_toArray, List.set_cons_zero, List.set_cons_succ]
  refine wpAnyH_take (i := 6) (v := ?_) rfl (by kernel_rfl) (by kernel_rfl) (by kernel_rfl) (fun _ _ _ h => h) (Or.inl ⟨by rfl, ?_⟩) (by assumption) ?_
  rotate_left
  · (intro w hSw; (try dsimp only at hSw); go_simp; (try with_reducible rfl))
  try simp only [List.getElem_toArray, List.getElem_cons_succ, List.getElem_cons_zero, Act.put, List.setIfInBounds_toArray, List.set_cons_zero, List.set_cons_succ]
  refine wpAnyH_take (i := 7) (v := ?_) rfl (by kernel_rfl) (by kernel_rfl) (by kernel_rfl) (fun _ _ _ h => h) (Or.inl ⟨by rfl, ?_⟩) (by assumption) ?_
  rotate_left
  · (intro w hSw; (try dsimp only at hSw); go_simp; (try with_reducible rfl))
  try simp only [List.getElem_toArray, List.getElem_cons_succ, List.getElem_cons_zero, Act.put, List.setIfInBounds_toArray, List.set_cons_zero, List.set_cons_succ]
  refine wpAnyH_take (i := 8) (v := ?_) rfl (by kernel_rfl) (by kernel_rfl) (by kernel_rfl) (fun _ _ _ h => h) (Or.inl ⟨by rfl, ?_⟩) (by assumption) ?_
  rotate_left
  · (intro w hSw; (try dsimp only at hSw); go_simp; (try with_reducible rfl))
  try simp only [List.getElem_toArray, List.getElem_cons_succ, List.getElem_cons_zero, Act.put, List.setIfInBounds_toArray, List.set_cons_zero, List.set_cons_succ]
  refine wpAnyH_take (i := 9) (v := ?_) rfl (by kernel_rfl) (by kernel_rfl) (by kernel_rfl) (fun _ _ _ h => h) (Or.inl ⟨by rfl, ?_⟩) (by assumption) ?_
  rotate_left
  · (intro w hSw; (try dsimp only at hSw); go_simp; (try with_reducible rfl))
  try simp only [List.getElem_toArray, List.getElem_cons_succ, List.getElem_cons_zero, Act.put, List.setIfInBounds_toArray, List.set_cons_zero, List.set_cons_succ]
  refine wpAnyH_take (i := 10) (v := ?_) rfl (by kernel_rfl) (by kernel_rfl) (by kernel_rfl) (fun _ _ _ h => h) (Or.inl ⟨by rfl, ?_⟩) (by assumption) ?_
  rotate_left
  · (intro w hSw; (try dsimp only at hSw); go_simp; (try with_reducible rfl))
  try simp only [List.getElem_toArray, List.getElem_cons_succ, List.getElem_cons_zero, Act.put, List.setIfInBounds_toArray, List.set_cons_zero, List.set_cons_succ]
  refine wpAnyH_take (i := 11) (v := ?_) rfl (by kernel_rfl) (by kernel_rfl) (by kernel_rfl) (fun _ _ _ h => h) (Or.inl ⟨by rfl, ?_⟩) (by assumption) ?_
  rotate_left
  · (intro w hSw; (try dsimp only at hSw); go_simp; (try with_reducible rfl))
  try simp only [List.getElem_toArray, List.getElem_cons_succ, List.getElem_cons_zero, Act.put, List.setIfInBounds_toArray, List.set_cons_zero, List.set_cons_succ]
  refine wpAnyH_take (i := 12) (v := ?_) rfl (by kernel_rfl) (by kernel_rfl) (by kernel_rfl) (fun _ _ _ h => h) (Or.inl ⟨by rfl, ?_⟩) (by assumption) ?_
  rotate_left
  · (intro w hSw; (try dsimp only at hSw); go_simp; (try with_reducible rfl))
  try simp only [List.getElem_toArray, List.getElem_cons_succ, List.getElem_cons_zero, Act.put, List.setIfInBounds_toArray, List.set_cons_zero, List.set_cons_succ]
  refine wpAnyH_take (i := 13) (v := ?_) rfl (by kernel_rfl) (by kernel_rfl) (by kernel_rfl) (fun _ _ _ h => h) (Or.inl ⟨by rfl, ?_⟩) (by assumption) ?_
  rotate_left
  · (intro w hSw; (try dsimp only at hSw); go_simp; (try with_reducible rfl))
  try simp only [List.getElem_toArray, List.getElem_cons_succ, List.getElem_cons_zero, Act.put, List.setIfInBounds_toArray, List.set_cons_zero, List.set_cons_succ]
  refine wpAnyH_take (i := 14) (v := ?_) rfl (by kernel_rfl) (by kernel_rfl) (by kernel_rfl) (fun _ _ _ h => h) (Or.inl ⟨by rfl, ?_⟩) (by assumption) ?_
  rotate_left
  · (intro w hSw; (try dsimp only at hSw); go_simp; (try with_reducible rfl))
  try simp only [List.getElem_toArray, List.getElem_cons_succ, List.getElem_cons_zero, Act.put, List.setIfInBounds_toArray, List.set_cons_zero, List.set_cons_succ]
  refine wpAnyH_take (i := 15) (v := ?_) rfl (by kernel_rfl) (by kernel_rfl) (by kernel_rfl) (fun _ _ _ h => h) (Or.inl ⟨by rfl, ?_⟩) (by assumption) ?_
  rotate_left
  · (intro w hSw; (try dsimp only at hSw); go_simp; (try with_reducible rfl))
  try simp only [List.getElem_toArray, List.getElem_cons_succ, List.getElem_cons_zero, Act.put, List.setIfInBounds_toArray, List.set_cons_zero, List.set_cons_succ]
  refine wpAnyH_take (i := 16) (v := ?_) rfl (by kernel_rfl) (by kernel_rfl) (by kernel_rfl) (fun _ _ _ h => h) (Or.inl ⟨by rfl, ?_⟩) (by assumption) ?_
  rotate_left
  · (intro w hSw; (try dsimp only at hSw); go_simp; (try with_reducible rfl))
  try simp only [List.getElem_toArray, List.getElem_cons_succ, List.getElem_cons_zero, Act.put, List.setIfInBounds_toArray, List.set_cons_zero, List.set_cons_succ]
  refine wpAnyH_take (i := 17) (v := ?_) rfl (by kernel_rfl) (by kernel_rfl) (by kernel_rfl) (fun _ _ _ h => h) (Or.inl ⟨by rfl, ?_⟩) (by assumption) ?_
  rotate_left
  · (intro w hSw; (try dsimp only at hSw); go_simp; (try with_reducible rfl))
  try simp only [List.getElem_toArray, List.getElem_cons_succ, List.getElem_cons_zero, Act.put, List.setIfInBounds_toArray, List.set_cons_zero, List.set_cons_succ]
  refine wpAnyH_take (i := 18) (v := ?_) rfl (by kernel_rfl) (by kernel_rfl) (by kernel_rfl) (fun _ _ _ h => h) (Or.inl ⟨by rfl, ?_⟩) (by assumption) ?_
  rotate_left
  · (intro w hSw; (try dsimp only at hSw); go_simp; (try with_reducible rfl))
  try simp only [List.getElem_toArray, List.getElem_cons_succ, List.getElem_cons_zero, Act.put, List.setIfInBounds_toArray, List.set_cons_zero, List.set_cons_succ]
  refine wpAnyH_done (by kernel_rfl) ?_ _
  clear hq0 hq1 hq2 w1' w2' w3' w4' w5' w6'
  go_upto_region 5 with fail
  have S2 := Lib.hid S1.out.drew
  have hc2 : w0.drew.drew.cell? ⟨b, off, none⟩ = some (.int .i64 h) := hc0
  clear S1 hc0
  generalize w0.drew = w2 at S2 hc2 ⊢
  refine wp_region_held_drew (S := fun w' => w'.cell? ⟨b, off, none⟩ = some (.int .i64 h) ∧ w'.cell? ⟨w.heap.size, 0, none⟩ = some (.int .i64 t) ∧ w'.cell? ⟨w.heap.size, 1, none⟩ = some (.int .i64 m) ∧ w'.cell? ⟨w.heap.size, 2, none⟩ = some (.int .i64 r) ∧ w'.cell? ⟨w.heap.size, 3, none⟩ = some (.int .i64 s) ∧ w'.cell? ⟨w.heap.size, 4, none⟩ = some (.int .i64 k)) (by kernel_rfl) (⟨hc2, OpenSt.cells S2.out⟩) (fun hHeld => ?_)
  refine wpAnyH_take (i := 0) (v := ?_) rfl (by kernel_rfl) (by kernel_rfl) (by kernel_rfl) (fun _ _ _ h => h) (Or.inl ⟨by rfl, ?_⟩) (by assumption) ?_
  rotate_left
  · (intro w hSw; (try dsimp only at hSw); go_simp; (try with_reducible rfl))
  try simp only [List.getElem_toArray, List.getElem_cons_succ, List.getElem_cons_zero, Act.put, List.setIfInBounds_toArray, List.set_cons_zero, List.set_cons_succ]
  refine wpAnyH_take (i := 1) (v := ?_) rfl (by kernel_rfl) (by kernel_rfl) (by kernel_rfl) (fun _ _ _ h => h) (Or.inl ⟨by rfl, ?_⟩) (by assumption) ?_
  rotate_left
  · (intro w hSw; (try dsimp only at hSw); go_simp; (try with_reducible rfl))
  try simp only [List.getElem_toArray, List.getElem_cons_succ, List.getElem_cons_zero, Act.put, List.setIfInBounds_toArray, List.set_cons_zero, List.set_cons_succ]
  refine wpAnyH_take (i := 2) (v := ?_) rfl (by kernel_rfl) (by kernel_rfl) (by kernel_rfl) (fun _ _ _ h => h) (Or.inl ⟨by rfl, ?_⟩) (by assumption) ?_
  rotate_left
  · (intro w hSw; (try dsimp only at hSw); go_simp; (try with_reducible rfl))
  try simp only [List.getElem_toArray, List.getElem_cons_succ, List.getElem_cons_zero, Act.put, List.setIfInBounds_toArray, List.set_cons_zero, List.set_cons_succ]
  refine wpAnyH_take (i := 3) (v := ?_) rfl (by kernel_rfl) (by kernel_rfl) (by kernel_rfl) (fun _ _ _ h => h) (Or.inl ⟨by rfl, ?_⟩) (by assumption) ?_
  rotate_left
  · (intro w hSw; (try dsimp only at hSw); go_simp; (try with_reducible rfl))
  try simp only [List.getElem_toArray, List.getElem_cons_succ, List.getElem_cons_zero, Act.put, List.setIfInBounds_toArray, List.set_cons_zero, List.set_cons_succ]
  refine wpAnyH_take (i := 4) (v := ?_) rfl (by kernel_rfl) (by kernel_rfl) (by kernel_rfl) (fun _ _ _ h => h) (Or.inl ⟨by rfl, ?_⟩) (by assumption) ?_
  rotate_left
  · (intro w hSw; (try dsimp only at hSw); go_simp; (try with_reducible rfl))
  try simp only [List.getElem_toArray, List.getElem_cons_succ, List.getElem_cons_zero, Act.put, List.setIfInBounds_toArray, List.set_cons_zero, List.set_cons_succ]
  refine wpAnyH_take (i := 5) (v := ?_) rfl (by kernel_rfl) (by kernel_rfl) (by kernel_rfl) (fun _ _ _ h => h) (Or.inl ⟨by rfl, ?_⟩) (by assumption) ?_
  rotate_left
  · (intro w hSw; (try dsimp only at hSw); go_simp; (try with_reducible rfl))
  try simp only [List.getElem_toArray, List.getElem_cons_succ, List.getElem_cons_zero, Act.put, List.setIfInBounds_toArray, List.set_cons_zero, List.set_cons_succ]
  refine wpAnyH_take (i := 6) (v := ?_) rfl (by kernel_rfl) (by kernel_rfl) (by kernel_rfl) (fun _ _ _ h => h) (Or.inl ⟨by rfl, ?_⟩) (by assumption) ?_
  rotate_left
  · (intro w hSw; (try dsimp only at hSw); go_simp; (try with_reducible rfl))
  try simp only [List.getElem_toArray, List.getElem_cons_succ, List.getElem_cons_zero, Act.put, List.setIfInBounds_toArray, List.set_cons_zero, List.set_cons_succ]
  refine wpAnyH_take (i := 7) (v := ?_) rfl (by kernel_rfl) (by kernel_rfl) (by kernel_rfl) (fun _ _ _ h => h) (Or.inl ⟨by rfl, ?_⟩) (by assumption) ?_
  rotate_left
  · (intro w hSw; (try dsimp only at hSw); go_simp; (try with_reducible rfl))
  try simp only [List.getElem_toArray, List.getElem_cons_succ, List.getElem_cons_zero, Act.put, List.setIfInBounds_toArray, List.set_cons_zero, List.set_cons_succ]
  refine wpAnyH_take (i := 8) (v := ?_) rfl (by kernel_rfl) (by kernel_rfl) (by kernel_rfl) (fun _ _ _ h => h) (Or.inl ⟨by rfl, ?_⟩) (by assumption) ?_
  rotate_left
  · (intro w hSw; (try dsimp only at hSw); go_simp; (try with_reducible rfl))
  try simp only [List.getElem_toArray, List.getElem_cons_succ, List.getElem_cons_zero, Act.put, List.setIfInBounds_toArray, List.set_cons_zero, List.set_cons_succ]
  refine wpAnyH_take (i := 10) (v := ?_) rfl (by kernel_rfl) (by kernel_rfl) (by kernel_rfl) (fun _ _ _ h => h) (Or.inl ⟨by rfl, ?_⟩) (by assumption) ?_
  rotate_left
  · (intro w hSw; (try dsimp only at hSw); go_simp; (try with_reducible rfl))
  try simp only [List.getElem_toArray, List.getElem_cons_succ, List.getElem_cons_zero, Act.put, List.setIfInBounds_toArray, List.set_cons_zero, List.set_cons_succ]
  refine wpAnyH_ready (rs := [9]) (by kernel_rfl) (by simp) (AllReadyH.cons rfl (fun K hK => ?_) AllReadyH.nil)
  go_simp
  refine (l07Number_any _ _ _ _ _ _ _ _ _ ys _ HID.out (R1.out.below S2.out.below) (by omega)).mono ?_
  rintro e w3 ⟨rfl, b3⟩
  rw [HX.out]
  have S3 := Lib.hid (S2.out.call b3)
  have hc3 := (b3.cell (p := ⟨b, off, none⟩) (World.block_lt_of_cell? _ _ hc2)).trans hc2
  clear b3
  go_wp2_with fail
  refine hK.out _ _ ?_ (fun hHeld => ?_)
  · exact ⟨hc3, OpenSt.cells S3.out⟩
  clear hK K
  try simp only [List.getElem_toArray, List.getElem_cons_succ, List.getElem_cons_zero, Act.put, List.setIfInBounds_toArray, List.set_cons_zero, List.set_cons_succ]
  have hxd := HD.out
  refine wpAnyH_take (i := 11) (v := ?_) rfl (by kernel_rfl) (by kernel_rfl) (by kernel_rfl) (fun _ _ _ h => h) (Or.inl ⟨by rfl, ?_⟩) (by assumption) ?_
  rotate_left
  · (intro w hSw; (try dsimp only at hSw); go_simp; (try with_reducible rfl))
  try simp only [List.getElem_toArray, List.getElem_cons_succ, List.getElem_cons_zero, Act.put, List.setIfInBounds_toArray, List.set_cons_zero, List.set_cons_succ]
  refine wpAnyH_done (by kernel_rfl) ?_ _
  clear S2 hc2 hc3 hd1
  have rc0 := S3.out.res.c0
  have rf0 := S3.out.res.f 0
  have rc1 := S3.out.res.c1
  have rf1 := S3.out.res.f 1
  have rc2 := S3.out.res.c2
  have rf2 := S3.out.res.f 2
  have rc3 := S3.out.res.c3
  have rf3 := S3.out.res.f 3
  have rc4 := S3.out.res.c4
  have rf4 := S3.out.res.f 4
  have rc5 := S3.out.res.c5
  have rf5 := S3.out.res.f 5
  have rc6 := S3.out.res.c6
  have rf6 := S3.out.res.f 6
  have rc7 := S3.out.res.c7
  have rf7 := S3.out.res.f 7
  go_wp2_with fail
  clear rc0 rf0 rc1 rf1 rc2 rf2 rc3 rf3 rc4 rf4 rc5 rf5 rc6 rf6 rc7 rf7 hxd
  change bodyPost _ _ _ _ _ (setEight w3 (w.heap.size + 1) 0 0 0 0 0 0 0 (.slice none 0 0))
  obtain ⟨SF, BF⟩ := S3.out.fin 0 0 0 0 0 0 0 (.slice none 0 0)
  generalize setEight w3 (w.heap.size + 1) 0 0 0 0 0 0 0 (.slice none 0 0) = wz at SF BF ⊢
  have e0 := SF.c0
  have e1 := SF.c1
  have e2 := SF.c2
  have e3 := SF.c3
  have e4 := SF.c4
  have e5 := SF.c5
  have e6 := SF.c6
  have e7 := SF.c7
  exact bodyPost_ret (v := .tuple #[.agg #[.int .i64 0, .int .i64 0, .int .i64 0, .int .i64 0, .int .i64 0, .int .i64 0, .int .i64 0, .slice none 0 0], .int .i64 7]) (by simp [results, Try.results93, go_sem, e0, e1, e2, e3, e4, e5, e6, e7]) rfl ⟨_, _, rfl, Own.nil_, BF⟩
set_option linter.unusedSimpArgs false in
set_option linter.unusedVariables false in
set_option maxHeartbeats 1000000 in
set_option maxRecDepth 100000 in
theorem so_E (b off c : Nat) (id t m r s k h x p0 p1 p2 : Int) (ys xs : List Int) (w : World) (hr : Rd w (some ⟨b, off, none⟩) (ys.length + 3) xs) (hn : ys.length + 3 ≤ 1024) (hnc : ys.length ≤ c) (hcap2 : c + 3 ≤ 9223372036854775807) (hi : inRange 0 16777215 id = true) (hl : 1 ≤ ys.length) (hh : xs.getD 0 0 = h) (hh2 : 0 ≤ h ∧ h ≤ 255) (hy : xs.take ys.length = ys) (hp0 : xs.getD ys.length 0 = p0) (hp1 : xs.getD (ys.length + 1) 0 = p1) (hp2 : xs.getD (ys.length + 2) 0 = p2) (hb0 : 0 ≤ p0 ∧ p0 ≤ 255) (hb1 : 0 ≤ p1 ∧ p1 ≤ 255) (hb2 : 0 ≤ p2 ∧ p2 ≤ 255) (hx : sealNum (h / 64) id t m r s k ys = x) (a q u0 u1 u2 u3 u4 : Int) (d : List Int) (hff : ∀ (W : World) (cc : Nat), Rd W (some ⟨b, off, none⟩) ys.length ys → ys.length ≤ cc → cc ≤ 9223372036854775807 → Calls Try.prog 134 #[.slice (some ⟨b, off, none⟩) ys.length cc] W (GivesFB W ⟨a, q, u0, u1, u2, u3, u4, d⟩ (.bool false))) (hdl : d.length ≤ 1024) (hd : (x != p0 * 65536 + p1 * 256 + p2) = false) : Calls Try.prog 93 #[.slice (some ⟨b, off, none⟩) (ys.length + 3) (c + 3), .int .i64 id, .agg #[.int .i64 t, .int .i64 m, .int .i64 r, .int .i64 s, .int .i64 k]] w (GivesFB w Fr.zero (.int .i64 6)) := by
  have HFF := Lib.hid hff; clear hff
  have S0 := Lib.hid (OpenSt.start (t := t) (m := m) (r := r) (s := s) (k := k) w)
  obtain ⟨b', off', e', hat⟩ := (hr.below S0.out.below).here (by omega)
  cases e'
  have hc0 := hat 0 (by omega)
  rw [hh, Nat.add_zero] at hc0
  have hq0 := hat ys.length (by omega)
  rw [hp0] at hq0
  have hq1 := hat (ys.length + 1) (by omega)
  rw [hp1] at hq1
  have hq2 := hat (ys.length + 2) (by omega)
  rw [hp2] at hq2
  clear hat hh hp0 hp1 hp2
  have h1 := hr.first (a := ys.length) (by omega)
  rw [hy] at h1
  have R1 := Lib.hid h1
  clear h1
  have HX := Lib.hid hx; have HID := Lib.hid (inRange_iff.1 hi); have HD := Lib.hid hd
  have HBL : Hid (b < w.heap.size) := Lib.hid (by obtain ⟨_, _, e2, hl2⟩ := hr.block (by omega); cases e2; exact hl2)
  clear hr hi hy hx hd
  have hw : IntKind.i64.wrap ((ys.length : Int) + 3 - 3) = (ys.length : Int) := by rw [IntKind.wrap_i64]; omega
  have hlt : ¬ ((ys.length : Int) < 1) := by omega
  have h0c : (ys.length : Int) ≤ (c : Int) + 3 := by omega
  have h1c : (ys.length : Int) < (ys.length : Int) + 3 := by omega
  have h2c : (ys.length : Int) + 1 < (ys.length : Int) + 3 := by omega
  have h3c : (ys.length : Int) + 2 < (ys.length : Int) + 3 := by omega
  have h7c : (0 : Int) < (ys.length : Int) + 3 := by omega
  have h4c : (0 : Int) ≤ (ys.length : Int) + 1 := by omega
  have h5c : (0 : Int) ≤ (ys.length : Int) + 2 := by omega
  have h6c : ((ys.length : Int) + 2).toNat = ys.length + 2 := by omega
  have w1' : IntKind.i64.wrap (p0 * 65536) = p0 * 65536 := by rw [IntKind.wrap_i64]; omega
  have w2' : IntKind.i64.wrap (p1 * 256) = p1 * 256 := by rw [IntKind.wrap_i64]; omega
  have w3' : IntKind.i64.wrap (p0 * 65536 + p1 * 256) = p0 * 65536 + p1 * 256 := by rw [IntKind.wrap_i64]; omega
  have w4' : IntKind.i64.wrap (p0 * 65536 + p1 * 256 + p2) = p0 * 65536 + p1 * 256 + p2 := by rw [IntKind.wrap_i64]; omega
  have w5' : IntKind.i64.wrap ((ys.length : Int) + 1) = (ys.length : Int) + 1 := by rw [IntKind.wrap_i64]; omega
  have w6' : IntKind.i64.wrap ((ys.length : Int) + 2) = (ys.length : Int) + 2 := by rw [IntKind.wrap_i64]; omega
  have hd1 : IntKind.i64.wrap (h.tdiv 64) = h / 64 := by rw [Int.tdiv_eq_ediv_of_nonneg hh2.1, IntKind.wrap_i64]; omega
  go_enter Try.func93, Try.ntmps93
  go_upto_region 1 with fail
  generalize (w.alloc (.cells #[.int .i64 t, .int .i64 m, .int .i64 r, .int .i64 s, .int .i64 k] 25)).alloc (.cells #[.int .i64 0, .int .i64 0, .int .i64 0, .int .i64 0, .int .i64 0, .int .i64 0, .int .i64 0, .slice none 0 0] 28) = w0 at S0 hc0 hq0 hq1 hq2 ⊢
  go_upto_region 4 with fail
  have S1 := Lib.hid S0.out.drew
  clear S0
  refine wp_region_held_drew (S := fun w' => w'.cell? ⟨b, off + ys.length, none⟩ = some (.int .i64 p0) ∧ w'.cell? ⟨b, off + (ys.length + 1), none⟩ = some (.int .i64 p1) ∧ w'.cell? ⟨b, off + (ys.length + 2), none⟩ = some (.int .i64 p2)) (by kernel_rfl) (⟨hq0, hq1, hq2⟩) (fun hHeld => ?_)
  refine wpAnyH_take (i := 0) (v := ?_) rfl (by kernel_rfl) (by kernel_rfl) (by kernel_rfl) (fun _ _ _ h => h) (Or.inl ⟨by rfl, ?_⟩) (by assumption) ?_
  rotate_left
  · (intro w hSw; (try dsimp only at hSw); go_simp; (try with_reducible rfl))
  try simp only [List.getElem_toArray, List.getElem_cons_succ, List.getElem_cons_zero, Act.put, List.setIfInBounds_toArray, List.set_cons_zero, List.set_cons_succ]
  refine wpAnyH_take (i := 1) (v := ?_) rfl (by kernel_rfl) (by kernel_rfl) (by kernel_rfl) (fun _ _ _ h => h) (Or.inl ⟨by rfl, ?_⟩) (by assumption) ?_
  rotate_left
  · (intro w hSw; (try dsimp only at hSw); go_simp; (try with_reducible rfl))
  try simp only [List.getElem_toArray, List.getElem_cons_succ, List.getElem_cons_zero, Act.put, List.setIfInBounds_toArray, List.set_cons_zero, List.set_cons_succ]
  refine wpAnyH_take (i := 2) (v := ?_) rfl (by kernel_rfl) (by kernel_rfl) (by kernel_rfl) (fun _ _ _ h => h) (Or.inl ⟨by rfl, ?_⟩) (by assumption) ?_
  rotate_left
  · (intro w hSw; (try dsimp only at hSw); go_simp; (try with_reducible rfl))
  try simp only [List.getElem_toArray, List.getElem_cons_succ, List.getElem_cons_zero, Act.put, List.setIfInBounds_toArray, List.set_cons_zero, List.set_cons_succ]
  refine wpAnyH_take (i := 3) (v := ?_) rfl (by kernel_rfl) (by kernel_rfl) (by kernel_rfl) (fun _ _ _ h => h) (Or.inl ⟨by rfl, ?_⟩) (by assumption) ?_
  rotate_left
  · (intro w hSw; (try dsimp only at hSw); go_simp; (try with_reducible rfl))
  try simp only [List.getElem_toArray, List.getElem_cons_succ, List.getElem_cons_zero, Act.put, List.setIfInBounds_toArray, List.set_cons_zero, List.set_cons_succ]
  refine wpAnyH_take (i := 4) (v := ?_) rfl (by kernel_rfl) (by kernel_rfl) (by kernel_rfl) (fun _ _ _ h => h) (Or.inl ⟨by rfl, ?_⟩) (by assumption) ?_
  rotate_left
  · (intro w hSw; (try dsimp only at hSw); go_simp; (try with_reducible rfl))
  try simp only [List.getElem_toArray, List.getElem_cons_succ, List.getElem_cons_zero, Act.put, List.setIfInBounds_toArray, List.set_cons_zero, List.set_cons_succ]
  refine wpAnyH_take (i := 5) (v := ?_) rfl (by kernel_rfl) (by kernel_rfl) (by kernel_rfl) (fun _ _ _ h => h) (Or.inl ⟨by rfl, ?_⟩) (by assumption) ?_
  rotate_left
  · (intro w hSw; (try dsimp only at hSw); go_simp; (try with_reducible rfl))
  try simp only [List.getElem_toArray, List.getElem_cons_succ, List.getElem_cons_zero, Act.put, List.setIfInBounds_toArray, List.set_cons_zero, List.set_cons_succ]
  refine wpAnyH_take (i := 6) (v := ?_) rfl (by kernel_rfl) (by kernel_rfl) (by kernel_rfl) (fun _ _ _ h => h) (Or.inl ⟨by rfl, ?_⟩) (by assumption) ?_
  rotate_left
  · (intro w hSw; (try dsimp only at hSw); go_simp; (try with_reducible rfl))
  try simp only [List.getElem_toArray, List.getElem_cons_succ, List.getElem_cons_zero, Act.put, List.setIfInBounds_toArray, List.set_cons_zero, List.set_cons_succ]
  refine wpAnyH_take (i := 7) (v := ?_) rfl (by kernel_rfl) (by kernel_rfl) (by kernel_rfl) (fun _ _ _ h => h) (Or.inl ⟨by rfl, ?_⟩) (by assumption) ?_
  rotate_left
  · (intro w hSw; (try dsimp only at hSw); go_simp; (try with_reducible rfl))
  try simp only [List.getElem_toArray, List.getElem_cons_succ, List.getElem_cons_zero, Act.put, List.setIfInBounds_toArray, List.set_cons_zero, List.set_cons_succ]
  refine wpAnyH_take (i := 8) (v := ?_) rfl (by kernel_rfl) (by kernel_rfl) (by kernel_rfl) (fun _ _ _ h => h) (Or.inl ⟨by rfl, ?_⟩) (by assumption) ?_
  rotate_left
  · (intro w hSw; (try dsimp only at hSw); go_simp; (try with_reducible rfl))
  try simp only [List.getElem_toArray, List.getElem_cons_succ, List.getElem_cons_zero, Act.put, List.setIfInBounds_toArray, List.set_cons_zero, List.set_cons_succ]
  refine wpAnyH_take (i := 9) (v := ?_) rfl (by kernel_rfl) (by kernel_rfl) (by kernel_rfl) (fun _ _ _ h => h) (Or.inl ⟨by rfl, ?_⟩) (by assumption) ?_
  rotate_left
  · (intro w hSw; (try dsimp only at hSw); go_simp; (try with_reducible rfl))
  try simp only [List.getElem_toArray, List.getElem_cons_succ, List.getElem_cons_zero, Act.put, List.setIfInBounds_toArray, List.set_cons_zero, List.set_cons_succ]
  refine wpAnyH_take (i := 10) (v := ?_) rfl (by kernel_rfl) (by kernel_rfl) (by kernel_rfl) (fun _ _ _ h => h) (Or.inl ⟨by rfl, ?_⟩) (by assumption) ?_
  rotate_left
  · (intro w hSw; (try dsimp only at hSw); go_simp; (try with_reducible rfl))
  try simp only [List.getElem_toArray, List.getElem_cons_succ, List.getElem_cons_zero, Act.put, List.setIfInBounds_toArray, List.set_cons_zero, List.set_cons_succ]
  refine wpAnyH_take (i := 11) (v := ?_) rfl (by kernel_rfl) (by kernel_rfl) (by kernel_rfl) (fun _ _ _ h => h) (Or.inl ⟨by rfl, ?_⟩) (by assumption) ?_
  rotate_left
  · (intro w hSw; (try dsimp only at hSw); go_simp; (try with_reducible rfl))
  try simp only [List.getElem_toArray, List.getElem_cons_succ, List.getElem_cons_zero, Act.put, List.setIfInBounds_toArray, List.set_cons_zero, List.set_cons_succ]
  refine wpAnyH_take (i := 12) (v := ?_) rfl (by kernel_rfl) (by kernel_rfl) (by kernel_rfl) (fun _ _ _ h => h) (Or.inl ⟨by rfl, ?_⟩) (by assumption) ?_
  rotate_left
  · (intro w hSw; (try dsimp only at hSw); go_simp; (try with_reducible rfl))
  try simp only [List.getElem_toArray, List.getElem_cons_succ, List.getElem_cons_zero, Act.put, List.setIfInBounds_toArray, List.set_cons_zero, List.set_cons_succ]
  refine wpAnyH_take (i := 13) (v := ?_) rfl (by kernel_rfl) (by kernel_rfl) (by kernel_rfl) (fun _ _ _ h => h) (Or.inl ⟨by rfl, ?_⟩) (by assumption) ?_
  rotate_left
  · (intro w hSw; (try dsimp only at hSw); go_simp; (try with_reducible rfl))
  try simp only [List.getElem_toArray, List.getElem_cons_succ, List.getElem_cons_zero, Act.put, List.setIfInBounds_toArray, List.set_cons_zero, List.set_cons_succ]
  refine wpAnyH_take (i := 14) (v := ?_) rfl (by kernel_rfl) (by kernel_rfl) (by kernel_rfl) (fun _ _ _ h => h) (Or.inl ⟨by rfl, ?_⟩) (by assumption) ?_
  rotate_left
  · (intro w hSw; (try dsimp only at hSw); go_simp; (try with_reducible rfl))
  try simp only [List.getElem_toArray, List.getElem_cons_succ, List.getElem_cons_zero, Act.put, List.setIfInBounds_toArray, List.set_cons_zero, List.set_cons_succ]
  refine wpAnyH_take (i := 15) (v := ?_) rfl (by kernel_rfl) (by kernel_rfl) (by kernel_rfl) (fun _ _ _ h => h) (Or.inl ⟨by rfl, ?_⟩) (by assumption) ?_
  rotate_left
  · (intro w hSw; (try dsimp only at hSw); go_simp; (try with_reducible rfl))
  try simp only [List.getElem_toArray, List.getElem_cons_succ, List.getElem_cons_zero, Act.put, List.setIfInBounds_toArray, List.set_cons_zero, List.set_cons_succ]
  refine wpAnyH_take (i := 16) (v := ?_) rfl (by kernel_rfl) (by kernel_rfl) (by kernel_rfl) (fun _ _ _ h => h) (Or.inl ⟨by rfl, ?_⟩) (by assumption) ?_
  rotate_left
  · (intro w hSw; (try dsimp only at hSw); go_simp; (try with_reducible rfl))
  try simp only [List.getElem_toArray, List.getElem_cons_succ, List.getElem_cons_zero, Act.put, List.setIfInBounds_toArray, List.set_cons_zero, List.set_cons_succ]
  refine wpAnyH_take (i := 17) (v := ?_) rfl (by kernel_rfl) (by kernel_rfl) (by kernel_rfl) (fun _ _ _ h => h) (Or.inl ⟨by rfl, ?_⟩) (by assumption) ?_
  rotate_left
  · (intro w hSw; (try dsimp only at hSw); go_simp; (try with_reducible rfl))
  try simp only [List.getElem_toArray, List.getElem_cons_succ, List.getElem_cons_zero, Act.put, List.setIfInBounds_toArray, List.set_cons_zero, List.set_cons_succ]
  refine wpAnyH_take (i := 18) (v := ?_) rfl (by kernel_rfl) (by kernel_rfl) (by kernel_rfl) (fun _ _ _ h => h) (Or.inl ⟨by rfl, ?_⟩) (by assumption) ?_
  rotate_left
  · (intro w hSw; (try dsimp only at hSw); go_simp; (try with_reducible rfl))
  try simp only [List.getElem_toArray, List.getElem_cons_succ, List.getElem_cons_zero, Act.put, List.setIfInBounds_toArray, List.set_cons_zero, List.set_cons_succ]
  refine wpAnyH_done (by kernel_rfl) ?_ _
  clear hq0 hq1 hq2 w1' w2' w3' w4' w5' w6'
  go_upto_region 5 with fail
  have S2 := Lib.hid S1.out.drew
  have hc2 : w0.drew.drew.cell? ⟨b, off, none⟩ = some (.int .i64 h) := hc0
  clear S1 hc0
  generalize w0.drew = w2 at S2 hc2 ⊢
  refine wp_region_held_drew (S := fun w' => w'.cell? ⟨b, off, none⟩ = some (.int .i64 h) ∧ w'.cell? ⟨w.heap.size, 0, none⟩ = some (.int .i64 t) ∧ w'.cell? ⟨w.heap.size, 1, none⟩ = some (.int .i64 m) ∧ w'.cell? ⟨w.heap.size, 2, none⟩ = some (.int .i64 r) ∧ w'.cell? ⟨w.heap.size, 3, none⟩ = some (.int .i64 s) ∧ w'.cell? ⟨w.heap.size, 4, none⟩ = some (.int .i64 k)) (by kernel_rfl) (⟨hc2, OpenSt.cells S2.out⟩) (fun hHeld => ?_)
  refine wpAnyH_take (i := 0) (v := ?_) rfl (by kernel_rfl) (by kernel_rfl) (by kernel_rfl) (fun _ _ _ h => h) (Or.inl ⟨by rfl, ?_⟩) (by assumption) ?_
  rotate_left
  · (intro w hSw; (try dsimp only at hSw); go_simp; (try with_reducible rfl))
  try simp only [List.getElem_toArray, List.getElem_cons_succ, List.getElem_cons_zero, Act.put, List.setIfInBounds_toArray, List.set_cons_zero, List.set_cons_succ]
  refine wpAnyH_take (i := 1) (v := ?_) rfl (by kernel_rfl) (by kernel_rfl) (by kernel_rfl) (fun _ _ _ h => h) (Or.inl ⟨by rfl, ?_⟩) (by assumption) ?_
  rotate_left
  · (intro w hSw; (try dsimp only at hSw); go_simp; (try with_reducible rfl))
  try simp only [List.getElem_toArray, List.getElem_cons_succ, List.getElem_cons_zero, Act.put, List.setIfInBounds_toArray, List.set_cons_zero, List.set_cons_succ]
  refine wpAnyH_take (i := 2) (v := ?_) rfl (by kernel_rfl) (by kernel_rfl) (by kernel_rfl) (fun _ _ _ h => h) (Or.inl ⟨by rfl, ?_⟩) (by assumption) ?_
  rotate_left
  · (intro w hSw; (try dsimp only at hSw); go_simp; (try with_reducible rfl))
  try simp only [List.getElem_toArray, List.getElem_cons_succ, List.getElem_cons_zero, Act.put, List.setIfInBounds_toArray, List.set_cons_zero, List.set_cons_succ]
  refine wpAnyH_take (i := 3) (v := ?_) rfl (by kernel_rfl) (by kernel_rfl) (by kernel_rfl) (fun _ _ _ h => h) (Or.inl ⟨by rfl, ?_⟩) (by assumption) ?_
  rotate_left
  · (intro w hSw; (try dsimp only at hSw); go_simp; (try with_reducible rfl))
  try simp only [List.getElem_toArray, List.getElem_cons_succ, List.getElem_cons_zero, Act.put, List.setIfInBounds_toArray, List.set_cons_zero, List.set_cons_succ]
  refine wpAnyH_take (i := 4) (v := ?_) rfl (by kernel_rfl) (by kernel_rfl) (by kernel_rfl) (fun _ _ _ h => h) (Or.inl ⟨by rfl, ?_⟩) (by assumption) ?_
  rotate_left
  · (intro w hSw; (try dsimp only at hSw); go_simp; (try with_reducible rfl))
  try simp only [List.getElem_toArray, List.getElem_cons_succ, List.getElem_cons_zero, Act.put, List.setIfInBounds_toArray, List.set_cons_zero, List.set_cons_succ]
  refine wpAnyH_take (i := 5) (v := ?_) rfl (by kernel_rfl) (by kernel_rfl) (by kernel_rfl) (fun _ _ _ h => h) (Or.inl ⟨by rfl, ?_⟩) (by assumption) ?_
  rotate_left
  · (intro w hSw; (try dsimp only at hSw); go_simp; (try with_reducible rfl))
  try simp only [List.getElem_toArray, List.getElem_cons_succ, List.getElem_cons_zero, Act.put, List.setIfInBounds_toArray, List.set_cons_zero, List.set_cons_succ]
  refine wpAnyH_take (i := 6) (v := ?_) rfl (by kernel_rfl) (by kernel_rfl) (by kernel_rfl) (fun _ _ _ h => h) (Or.inl ⟨by rfl, ?_⟩) (by assumption) ?_
  rotate_left
  · (intro w hSw; (try dsimp only at hSw); go_simp; (try with_reducible rfl))
  try simp only [List.getElem_toArray, List.getElem_cons_succ, List.getElem_cons_zero, Act.put, List.setIfInBounds_toArray, List.set_cons_zero, List.set_cons_succ]
  refine wpAnyH_take (i := 7) (v := ?_) rfl (by kernel_rfl) (by kernel_rfl) (by kernel_rfl) (fun _ _ _ h => h) (Or.inl ⟨by rfl, ?_⟩) (by assumption) ?_
  rotate_left
  · (intro w hSw; (try dsimp only at hSw); go_simp; (try with_reducible rfl))
  try simp only [List.getElem_toArray, List.getElem_cons_succ, List.getElem_cons_zero, Act.put, List.setIfInBounds_toArray, List.set_cons_zero, List.set_cons_succ]
  refine wpAnyH_take (i := 8) (v := ?_) rfl (by kernel_rfl) (by kernel_rfl) (by kernel_rfl) (fun _ _ _ h => h) (Or.inl ⟨by rfl, ?_⟩) (by assumption) ?_
  rotate_left
  · (intro w hSw; (try dsimp only at hSw); go_simp; (try with_reducible rfl))
  try simp only [List.getElem_toArray, List.getElem_cons_succ, List.getElem_cons_zero, Act.put, List.setIfInBounds_toArray, List.set_cons_zero, List.set_cons_succ]
  refine wpAnyH_take (i := 10) (v := ?_) rfl (by kernel_rfl) (by kernel_rfl) (by kernel_rfl) (fun _ _ _ h => h) (Or.inl ⟨by rfl, ?_⟩) (by assumption) ?_
  rotate_left
  · (intro w hSw; (try dsimp only at hSw); go_simp; (try with_reducible rfl))
  try simp only [List.getElem_toArray, List.getElem_cons_succ, List.getElem_cons_zero, Act.put, List.setIfInBounds_toArray, List.set_cons_zero, List.set_cons_succ]
  refine wpAnyH_ready (rs := [9]) (by kernel_rfl) (by simp) (AllReadyH.cons rfl (fun K hK => ?_) AllReadyH.nil)
  go_simp
  refine (l07Number_any _ _ _ _ _ _ _ _ _ ys _ HID.out (R1.out.below S2.out.below) (by omega)).mono ?_
  rintro e w3 ⟨rfl, b3⟩
  rw [HX.out]
  have S3 := Lib.hid (S2.out.call b3)
  have hc3 := (b3.cell (p := ⟨b, off, none⟩) (World.block_lt_of_cell? _ _ hc2)).trans hc2
  clear b3
  go_wp2_with fail
  refine hK.out _ _ ?_ (fun hHeld => ?_)
  · exact ⟨hc3, OpenSt.cells S3.out⟩
  clear hK K
  try simp only [List.getElem_toArray, List.getElem_cons_succ, List.getElem_cons_zero, Act.put, List.setIfInBounds_toArray, List.set_cons_zero, List.set_cons_succ]
  have hxd := HD.out
  refine wpAnyH_take (i := 11) (v := ?_) rfl (by kernel_rfl) (by kernel_rfl) (by kernel_rfl) (fun _ _ _ h => h) (Or.inl ⟨by rfl, ?_⟩) (by assumption) ?_
  rotate_left
  · (intro w hSw; (try dsimp only at hSw); go_simp; (try with_reducible rfl))
  try simp only [List.getElem_toArray, List.getElem_cons_succ, List.getElem_cons_zero, Act.put, List.setIfInBounds_toArray, List.set_cons_zero, List.set_cons_succ]
  refine wpAnyH_done (by kernel_rfl) ?_ _
  clear S2 hc2 hc3 hd1
  go_wp2_with fail
  clear hxd
  refine (HFF.out _ _ (R1.out.below S3.out.below) (by omega) (by omega)).mono ?_
  rintro e w8 ⟨p8, c8, rfl, o8, b8⟩
  simp only at o8 ⊢
  have hsz := S3.out.size
  have S8 := Lib.hid (S3.out.call b8)
  have O8 := Lib.hid (o8.more (base' := w.heap.size + 2) hsz)
  have hd8 := Below.alloc (Below.refl w8.heap.size w8) (Nat.le_refl _) (.cells #[.int .i64 a, .int .i64 q, .int .i64 u0, .int .i64 u1, .int .i64 u2, .int .i64 u3, .int .i64 u4, .slice p8 d.length c8] 28)
  have X8 := Lib.hid (FrameAt.new (T := 28) (a := a) (q := q) (t := u0) (m := u1) (r := u2) (s := u3) (k := u4) (v := .slice p8 d.length c8) w8)
  have S9 := Lib.hid (S8.out.call hd8)
  have O9 := Lib.hid (O8.out.below hd8)
  clear o8 b8 hsz hd8 S3 S8 O8
  go_upto_region 9 with fail
  obtain ⟨J, hJ⟩ : ∃ J, J = w8.heap.size := ⟨_, rfl⟩
  rw [← hJ] at X8 ⊢
  clear hJ
  generalize w8.alloc (.cells #[.int .i64 a, .int .i64 q, .int .i64 u0, .int .i64 u1, .int .i64 u2, .int .i64 u3, .int .i64 u4, .slice p8 d.length c8] 28) = w9 at S9 O9 X8 ⊢
  have rc0 := S9.out.res.c0
  have rf0 := S9.out.res.f 0
  have rc1 := S9.out.res.c1
  have rf1 := S9.out.res.f 1
  have rc2 := S9.out.res.c2
  have rf2 := S9.out.res.f 2
  have rc3 := S9.out.res.c3
  have rf3 := S9.out.res.f 3
  have rc4 := S9.out.res.c4
  have rf4 := S9.out.res.f 4
  have rc5 := S9.out.res.c5
  have rf5 := S9.out.res.f 5
  have rc6 := S9.out.res.c6
  have rf6 := S9.out.res.f 6
  have rc7 := S9.out.res.c7
  have rf7 := S9.out.res.f 7
  go_wp2_with fail
  clear rc0 rf0 rc1 rf1 rc2 rf2 rc3 rf3 rc4 rf4 rc5 rf5 rc6 rf6 rc7 rf7
  change bodyPost _ _ _ _ _ (setEight w9 (w.heap.size + 1) 0 0 0 0 0 0 0 (.slice none 0 0))
  obtain ⟨SF, BF⟩ := S9.out.fin 0 0 0 0 0 0 0 (.slice none 0 0)
  generalize setEight w9 (w.heap.size + 1) 0 0 0 0 0 0 0 (.slice none 0 0) = wz at SF BF ⊢
  have e0 := SF.c0
  have e1 := SF.c1
  have e2 := SF.c2
  have e3 := SF.c3
  have e4 := SF.c4
  have e5 := SF.c5
  have e6 := SF.c6
  have e7 := SF.c7
  exact bodyPost_ret (v := .tuple #[.agg #[.int .i64 0, .int .i64 0, .int .i64 0, .int .i64 0, .int .i64 0, .int .i64 0, .int .i64 0, .slice none 0 0], .int .i64 6]) (by simp [results, Try.results93, go_sem, e0, e1, e2, e3, e4, e5, e6, e7]) rfl ⟨_, _, rfl, Own.nil_, BF⟩
set_option linter.unusedSimpArgs false in
set_option linter.unusedVariables false in
set_option maxHeartbeats 1000000 in
set_option maxRecDepth 100000 in
theorem so_F (b off c : Nat) (id t m r s k h x p0 p1 p2 : Int) (ys xs : List Int) (w : World) (hr : Rd w (some ⟨b, off, none⟩) (ys.length + 3) xs) (hn : ys.length + 3 ≤ 1024) (hnc : ys.length ≤ c) (hcap2 : c + 3 ≤ 9223372036854775807) (hi : inRange 0 16777215 id = true) (hl : 1 ≤ ys.length) (hh : xs.getD 0 0 = h) (hh2 : 0 ≤ h ∧ h ≤ 255) (hy : xs.take ys.length = ys) (hp0 : xs.getD ys.length 0 = p0) (hp1 : xs.getD (ys.length + 1) 0 = p1) (hp2 : xs.getD (ys.length + 2) 0 = p2) (hb0 : 0 ≤ p0 ∧ p0 ≤ 255) (hb1 : 0 ≤ p1 ∧ p1 ≤ 255) (hb2 : 0 ≤ p2 ∧ p2 ≤ 255) (hx : sealNum (h / 64) id t m r s k ys = x) (a q u0 u1 u2 u3 u4 : Int) (d : List Int) (hff : ∀ (W : World) (cc : Nat), Rd W (some ⟨b, off, none⟩) ys.length ys → ys.length ≤ cc → cc ≤ 9223372036854775807 → Calls Try.prog 134 #[.slice (some ⟨b, off, none⟩) ys.length cc] W (GivesFB W ⟨a, q, u0, u1, u2, u3, u4, d⟩ (.bool true))) (hdl : d.length ≤ 1024) (hd : (x != p0 * 65536 + p1 * 256 + p2) = false) (hst : (a != 0) = true) (hne : ¬ (u0 = t ∧ u1 = m ∧ u2 = r ∧ u3 = s ∧ u4 = k)) : Calls Try.prog 93 #[.slice (some ⟨b, off, none⟩) (ys.length + 3) (c + 3), .int .i64 id, .agg #[.int .i64 t, .int .i64 m, .int .i64 r, .int .i64 s, .int .i64 k]] w (GivesFB w Fr.zero (.int .i64 5)) := by
  have HFF := Lib.hid hff; clear hff
  have HST := Lib.hid hst; clear hst
  have hneq := fun W => state_neq_other hne W
  clear hne
  have S0 := Lib.hid (OpenSt.start (t := t) (m := m) (r := r) (s := s) (k := k) w)
  obtain ⟨b', off', e', hat⟩ := (hr.below S0.out.below).here (by omega)
  cases e'
  have hc0 := hat 0 (by omega)
  rw [hh, Nat.add_zero] at hc0
  have hq0 := hat ys.length (by omega)
  rw [hp0] at hq0
  have hq1 := hat (ys.length + 1) (by omega)
  rw [hp1] at hq1
  have hq2 := hat (ys.length + 2) (by omega)
  rw [hp2] at hq2
  clear hat hh hp0 hp1 hp2
  have h1 := hr.first (a := ys.length) (by omega)
  rw [hy] at h1
  have R1 := Lib.hid h1
  clear h1
  have HX := Lib.hid hx; have HID := Lib.hid (inRange_iff.1 hi); have HD := Lib.hid hd
  have HBL : Hid (b < w.heap.size) := Lib.hid (by obtain ⟨_, _, e2, hl2⟩ := hr.block (by omega); cases e2; exact hl2)
  clear hr hi hy hx hd
  have hw : IntKind.i64.wrap ((ys.length : Int) + 3 - 3) = (ys.length : Int) := by rw [IntKind.wrap_i64]; omega
  have hlt : ¬ ((ys.length : Int) < 1) := by omega
  have h0c : (ys.length : Int) ≤ (c : Int) + 3 := by omega
  have h1c : (ys.length : Int) < (ys.length : Int) + 3 := by omega
  have h2c : (ys.length : Int) + 1 < (ys.length : Int) + 3 := by omega
  have h3c : (ys.length : Int) + 2 < (ys.length : Int) + 3 := by omega
  have h7c : (0 : Int) < (ys.length : Int) + 3 := by omega
  have h4c : (0 : Int) ≤ (ys.length : Int) + 1 := by omega
  have h5c : (0 : Int) ≤ (ys.length : Int) + 2 := by omega
  have h6c : ((ys.length : Int) + 2).toNat = ys.length + 2 := by omega
  have w1' : IntKind.i64.wrap (p0 * 65536) = p0 * 65536 := by rw [IntKind.wrap_i64]; omega
  have w2' : IntKind.i64.wrap (p1 * 256) = p1 * 256 := by rw [IntKind.wrap_i64]; omega
  have w3' : IntKind.i64.wrap (p0 * 65536 + p1 * 256) = p0 * 65536 + p1 * 256 := by rw [IntKind.wrap_i64]; omega
  have w4' : IntKind.i64.wrap (p0 * 65536 + p1 * 256 + p2) = p0 * 65536 + p1 * 256 + p2 := by rw [IntKind.wrap_i64]; omega
  have w5' : IntKind.i64.wrap ((ys.length : Int) + 1) = (ys.length : Int) + 1 := by rw [IntKind.wrap_i64]; omega
  have w6' : IntKind.i64.wrap ((ys.length : Int) + 2) = (ys.length : Int) + 2 := by rw [IntKind.wrap_i64]; omega
  have hd1 : IntKind.i64.wrap (h.tdiv 64) = h / 64 := by rw [Int.tdiv_eq_ediv_of_nonneg hh2.1, IntKind.wrap_i64]; omega
  go_enter Try.func93, Try.ntmps93
  go_upto_region 1 with fail
  generalize (w.alloc (.cells #[.int .i64 t, .int .i64 m, .int .i64 r, .int .i64 s, .int .i64 k] 25)).alloc (.cells #[.int .i64 0, .int .i64 0, .int .i64 0, .int .i64 0, .int .i64 0, .int .i64 0, .int .i64 0, .slice none 0 0] 28) = w0 at S0 hc0 hq0 hq1 hq2 ⊢
  go_upto_region 4 with fail
  have S1 := Lib.hid S0.out.drew
  clear S0
  refine wp_region_held_drew (S := fun w' => w'.cell? ⟨b, off + ys.length, none⟩ = some (.int .i64 p0) ∧ w'.cell? ⟨b, off + (ys.length + 1), none⟩ = some (.int .i64 p1) ∧ w'.cell? ⟨b, off + (ys.length + 2), none⟩ = some (.int .i64 p2)) (by kernel_rfl) (⟨hq0, hq1, hq2⟩) (fun hHeld => ?_)
  refine wpAnyH_take (i := 0) (v := ?_) rfl (by kernel_rfl) (by kernel_rfl) (by kernel_rfl) (fun _ _ _ h => h) (Or.inl ⟨by rfl, ?_⟩) (by assumption) ?_
  rotate_left
  · (intro w hSw; (try dsimp only at hSw); go_simp; (try with_reducible rfl))
  try simp only [List.getElem_toArray, List.getElem_cons_succ, List.getElem_cons_zero, Act.put, List.setIfInBounds_toArray, List.set_cons_zero, List.set_cons_succ]
  refine wpAnyH_take (i := 1) (v := ?_) rfl (by kernel_rfl) (by kernel_rfl) (by kernel_rfl) (fun _ _ _ h => h) (Or.inl ⟨by rfl, ?_⟩) (by assumption) ?_
  rotate_left
  · (intro w hSw; (try dsimp only at hSw); go_simp; (try with_reducible rfl))
  try simp only [List.getElem_toArray, List.getElem_cons_succ, List.getElem_cons_zero, Act.put, List.setIfInBounds_toArray, List.set_cons_zero, List.set_cons_succ]
  refine wpAnyH_take (i := 2) (v := ?_) rfl (by kernel_rfl) (by kernel_rfl) (by kernel_rfl) (fun _ _ _ h => h) (Or.inl ⟨by rfl, ?_⟩) (by assumption) ?_
  rotate_left
  · (intro w hSw; (try dsimp only at hSw); go_simp; (try with_reducible rfl))
  try simp only [List.getElem_toArray, List.getElem_cons_succ, List.getElem_cons_zero, Act.put, List.setIfInBounds_toArray, List.set_cons_zero, List.set_cons_succ]
  refine wpAnyH_take (i := 3) (v := ?_) rfl (by kernel_rfl) (by kernel_rfl) (by kernel_rfl) (fun _ _ _ h => h) (Or.inl ⟨by rfl, ?_⟩) (by assumption) ?_
  rotate_left
  · (intro w hSw; (try dsimp only at hSw); go_simp; (try with_reducible rfl))
  try simp only [List.getElem_toArray, List.getElem_cons_succ, List.getElem_cons_zero, Act.put, List.setIfInBounds_toArray, List.set_cons_zero, List.set_cons_succ]
  refine wpAnyH_take (i := 4) (v := ?_) rfl (by kernel_rfl) (by kernel_rfl) (by kernel_rfl) (fun _ _ _ h => h) (Or.inl ⟨by rfl, ?_⟩) (by assumption) ?_
  rotate_left
  · (intro w hSw; (try dsimp only at hSw); go_simp; (try with_reducible rfl))
  try simp only [List.getElem_toArray, List.getElem_cons_succ, List.getElem_cons_zero, Act.put, List.setIfInBounds_toArray, List.set_cons_zero, List.set_cons_succ]
  refine wpAnyH_take (i := 5) (v := ?_) rfl (by kernel_rfl) (by kernel_rfl) (by kernel_rfl) (fun _ _ _ h => h) (Or.inl ⟨by rfl, ?_⟩) (by assumption) ?_
  rotate_left
  · (intro w hSw; (try dsimp only at hSw); go_simp; (try with_reducible rfl))
  try simp only [List.getElem_toArray, List.getElem_cons_succ, List.getElem_cons_zero, Act.put, List.setIfInBounds_toArray, List.set_cons_zero, List.set_cons_succ]
  refine wpAnyH_take (i := 6) (v := ?_) rfl (by kernel_rfl) (by kernel_rfl) (by kernel_rfl) (fun _ _ _ h => h) (Or.inl ⟨by rfl, ?_⟩) (by assumption) ?_
  rotate_left
  · (intro w hSw; (try dsimp only at hSw); go_simp; (try with_reducible rfl))
  try simp only [List.getElem_toArray, List.getElem_cons_succ, List.getElem_cons_zero, Act.put, List.setIfInBounds_toArray, List.set_cons_zero, List.set_cons_succ]
  refine wpAnyH_take (i := 7) (v := ?_) rfl (by kernel_rfl) (by kernel_rfl) (by kernel_rfl) (fun _ _ _ h => h) (Or.inl ⟨by rfl, ?_⟩) (by assumption) ?_
  rotate_left
  · (intro w hSw; (try dsimp only at hSw); go_simp; (try with_reducible rfl))
  try simp only [List.getElem_toArray, List.getElem_cons_succ, List.getElem_cons_zero, Act.put, List.setIfInBounds_toArray, List.set_cons_zero, List.set_cons_succ]
  refine wpAnyH_take (i := 8) (v := ?_) rfl (by kernel_rfl) (by kernel_rfl) (by kernel_rfl) (fun _ _ _ h => h) (Or.inl ⟨by rfl, ?_⟩) (by assumption) ?_
  rotate_left
  · (intro w hSw; (try dsimp only at hSw); go_simp; (try with_reducible rfl))
  try simp only [List.getElem_toArray, List.getElem_cons_succ, List.getElem_cons_zero, Act.put, List.setIfInBounds_toArray, List.set_cons_zero, List.set_cons_succ]
  refine wpAnyH_take (i := 9) (v := ?_) rfl (by kernel_rfl) (by kernel_rfl) (by kernel_rfl) (fun _ _ _ h => h) (Or.inl ⟨by rfl, ?_⟩) (by assumption) ?_
  rotate_left
  · (intro w hSw; (try dsimp only at hSw); go_simp; (try with_reducible rfl))
  try simp only [List.getElem_toArray, List.getElem_cons_succ, List.getElem_cons_zero, Act.put, List.setIfInBounds_toArray, List.set_cons_zero, List.set_cons_succ]
  refine wpAnyH_take (i := 10) (v := ?_) rfl (by kernel_rfl) (by kernel_rfl) (by kernel_rfl) (fun _ _ _ h => h) (Or.inl ⟨by rfl, ?_⟩) (by assumption) ?_
  rotate_left
  · (intro w hSw; (try dsimp only at hSw); go_simp; (try with_reducible rfl))
  try simp only [List.getElem_toArray, List.getElem_cons_succ, List.getElem_cons_zero, Act.put, List.setIfInBounds_toArray, List.set_cons_zero, List.set_cons_succ]
  refine wpAnyH_take (i := 11) (v := ?_) rfl (by kernel_rfl) (by kernel_rfl) (by kernel_rfl) (fun _ _ _ h => h) (Or.inl ⟨by rfl, ?_⟩) (by assumption) ?_
  rotate_left
  · (intro w hSw; (try dsimp only at hSw); go_simp; (try with_reducible rfl))
  try simp only [List.getElem_toArray, List.getElem_cons_succ, List.getElem_cons_zero, Act.put, List.setIfInBounds_toArray, List.set_cons_zero, List.set_cons_succ]
  refine wpAnyH_take (i := 12) (v := ?_) rfl (by kernel_rfl) (by kernel_rfl) (by kernel_rfl) (fun _ _ _ h => h) (Or.inl ⟨by rfl, ?_⟩) (by assumption) ?_
  rotate_left
  · (intro w hSw; (try dsimp only at hSw); go_simp; (try with_reducible rfl))
  try simp only [List.getElem_toArray, List.getElem_cons_succ, List.getElem_cons_zero, Act.put, List.setIfInBounds_toArray, List.set_cons_zero, List.set_cons_succ]
  refine wpAnyH_take (i := 13) (v := ?_) rfl (by kernel_rfl) (by kernel_rfl) (by kernel_rfl) (fun _ _ _ h => h) (Or.inl ⟨by rfl, ?_⟩) (by assumption) ?_
  rotate_left
  · (intro w hSw; (try dsimp only at hSw); go_simp; (try with_reducible rfl))
  try simp only [List.getElem_toArray, List.getElem_cons_succ, List.getElem_cons_zero, Act.put, List.setIfInBounds_toArray, List.set_cons_zero, List.set_cons_succ]
  refine wpAnyH_take (i := 14) (v := ?_) rfl (by kernel_rfl) (by kernel_rfl) (by kernel_rfl) (fun _ _ _ h => h) (Or.inl ⟨by rfl, ?_⟩) (by assumption) ?_
  rotate_left
  · (intro w hSw; (try dsimp only at hSw); go_simp; (try with_reducible rfl))
  try simp only [List.getElem_toArray, List.getElem_cons_succ, List.getElem_cons_zero, Act.put, List.setIfInBounds_toArray, List.set_cons_zero, List.set_cons_succ]
  refine wpAnyH_take (i := 15) (v := ?_) rfl (by kernel_rfl) (by kernel_rfl) (by kernel_rfl) (fun _ _ _ h => h) (Or.inl ⟨by rfl, ?_⟩) (by assumption) ?_
  rotate_left
  · (intro w hSw; (try dsimp only at hSw); go_simp; (try with_reducible rfl))
  try simp only [List.getElem_toArray, List.getElem_cons_succ, List.getElem_cons_zero, Act.put, List.setIfInBounds_toArray, List.set_cons_zero, List.set_cons_succ]
  refine wpAnyH_take (i := 16) (v := ?_) rfl (by kernel_rfl) (by kernel_rfl) (by kernel_rfl) (fun _ _ _ h => h) (Or.inl ⟨by rfl, ?_⟩) (by assumption) ?_
  rotate_left
  · (intro w hSw; (try dsimp only at hSw); go_simp; (try with_reducible rfl))
  try simp only [List.getElem_toArray, List.getElem_cons_succ, List.getElem_cons_zero, Act.put, List.setIfInBounds_toArray, List.set_cons_zero, List.set_cons_succ]
  refine wpAnyH_take (i := 17) (v := ?_) rfl (by kernel_rfl) (by kernel_rfl) (by kernel_rfl) (fun _ _ _ h => h) (Or.inl ⟨by rfl, ?_⟩) (by assumption) ?_
  rotate_left
  · (intro w hSw; (try dsimp only at hSw); go_simp; (try with_reducible rfl))
  try simp only [List.getElem_toArray, List.getElem_cons_succ, List.getElem_cons_zero, Act.put, List.setIfInBounds_toArray, List.set_cons_zero, List.set_cons_succ]
  refine wpAnyH_take (i := 18) (v := ?_) rfl (by kernel_rfl) (by kernel_rfl) (by kernel_rfl) (fun _ _ _ h => h) (Or.inl ⟨by rfl, ?_⟩) (by assumption) ?_
  rotate_left
  · (intro w hSw; (try dsimp only at hSw); go_simp; (try with_reducible rfl))
  try simp only [List.getElem_toArray, List.getElem_cons_succ, List.getElem_cons_zero, Act.put, List.setIfInBounds_toArray, List.set_cons_zero, List.set_cons_succ]
  refine wpAnyH_done (by kernel_rfl) ?_ _
  clear hq0 hq1 hq2 w1' w2' w3' w4' w5' w6'
  go_upto_region 5 with fail
  have S2 := Lib.hid S1.out.drew
  have hc2 : w0.drew.drew.cell? ⟨b, off, none⟩ = some (.int .i64 h) := hc0
  clear S1 hc0
  generalize w0.drew = w2 at S2 hc2 ⊢
  refine wp_region_held_drew (S := fun w' => w'.cell? ⟨b, off, none⟩ = some (.int .i64 h) ∧ w'.cell? ⟨w.heap.size, 0, none⟩ = some (.int .i64 t) ∧ w'.cell? ⟨w.heap.size, 1, none⟩ = some (.int .i64 m) ∧ w'.cell? ⟨w.heap.size, 2, none⟩ = some (.int .i64 r) ∧ w'.cell? ⟨w.heap.size, 3, none⟩ = some (.int .i64 s) ∧ w'.cell? ⟨w.heap.size, 4, none⟩ = some (.int .i64 k)) (by kernel_rfl) (⟨hc2, OpenSt.cells S2.out⟩) (fun hHeld => ?_)
  refine wpAnyH_take (i := 0) (v := ?_) rfl (by kernel_rfl) (by kernel_rfl) (by kernel_rfl) (fun _ _ _ h => h) (Or.inl ⟨by rfl, ?_⟩) (by assumption) ?_
  rotate_left
  · (intro w hSw; (try dsimp only at hSw); go_simp; (try with_reducible rfl))
  try simp only [List.getElem_toArray, List.getElem_cons_succ, List.getElem_cons_zero, Act.put, List.setIfInBounds_toArray, List.set_cons_zero, List.set_cons_succ]
  refine wpAnyH_take (i := 1) (v := ?_) rfl (by kernel_rfl) (by kernel_rfl) (by kernel_rfl) (fun _ _ _ h => h) (Or.inl ⟨by rfl, ?_⟩) (by assumption) ?_
  rotate_left
  · (intro w hSw; (try dsimp only at hSw); go_simp; (try with_reducible rfl))
  try simp only [List.getElem_toArray, List.getElem_cons_succ, List.getElem_cons_zero, Act.put, List.setIfInBounds_toArray, List.set_cons_zero, List.set_cons_succ]
  refine wpAnyH_take (i := 2) (v := ?_) rfl (by kernel_rfl) (by kernel_rfl) (by kernel_rfl) (fun _ _ _ h => h) (Or.inl ⟨by rfl, ?_⟩) (by assumption) ?_
  rotate_left
  · (intro w hSw; (try dsimp only at hSw); go_simp; (try with_reducible rfl))
  try simp only [List.getElem_toArray, List.getElem_cons_succ, List.getElem_cons_zero, Act.put, List.setIfInBounds_toArray, List.set_cons_zero, List.set_cons_succ]
  refine wpAnyH_take (i := 3) (v := ?_) rfl (by kernel_rfl) (by kernel_rfl) (by kernel_rfl) (fun _ _ _ h => h) (Or.inl ⟨by rfl, ?_⟩) (by assumption) ?_
  rotate_left
  · (intro w hSw; (try dsimp only at hSw); go_simp; (try with_reducible rfl))
  try simp only [List.getElem_toArray, List.getElem_cons_succ, List.getElem_cons_zero, Act.put, List.setIfInBounds_toArray, List.set_cons_zero, List.set_cons_succ]
  refine wpAnyH_take (i := 4) (v := ?_) rfl (by kernel_rfl) (by kernel_rfl) (by kernel_rfl) (fun _ _ _ h => h) (Or.inl ⟨by rfl, ?_⟩) (by assumption) ?_
  rotate_left
  · (intro w hSw; (try dsimp only at hSw); go_simp; (try with_reducible rfl))
  try simp only [List.getElem_toArray, List.getElem_cons_succ, List.getElem_cons_zero, Act.put, List.setIfInBounds_toArray, List.set_cons_zero, List.set_cons_succ]
  refine wpAnyH_take (i := 5) (v := ?_) rfl (by kernel_rfl) (by kernel_rfl) (by kernel_rfl) (fun _ _ _ h => h) (Or.inl ⟨by rfl, ?_⟩) (by assumption) ?_
  rotate_left
  · (intro w hSw; (try dsimp only at hSw); go_simp; (try with_reducible rfl))
  try simp only [List.getElem_toArray, List.getElem_cons_succ, List.getElem_cons_zero, Act.put, List.setIfInBounds_toArray, List.set_cons_zero, List.set_cons_succ]
  refine wpAnyH_take (i := 6) (v := ?_) rfl (by kernel_rfl) (by kernel_rfl) (by kernel_rfl) (fun _ _ _ h => h) (Or.inl ⟨by rfl, ?_⟩) (by assumption) ?_
  rotate_left
  · (intro w hSw; (try dsimp only at hSw); go_simp; (try with_reducible rfl))
  try simp only [List.getElem_toArray, List.getElem_cons_succ, List.getElem_cons_zero, Act.put, List.setIfInBounds_toArray, List.set_cons_zero, List.set_cons_succ]
  refine wpAnyH_take (i := 7) (v := ?_) rfl (by kernel_rfl) (by kernel_rfl) (by kernel_rfl) (fun _ _ _ h => h) (Or.inl ⟨by rfl, ?_⟩) (by assumption) ?_
  rotate_left
  · (intro w hSw; (try dsimp only at hSw); go_simp; (try with_reducible rfl))
  try simp only [List.getElem_toArray, List.getElem_cons_succ, List.getElem_cons_zero, Act.put, List.setIfInBounds_toArray, List.set_cons_zero, List.set_cons_succ]
  refine wpAnyH_take (i := 8) (v := ?_) rfl (by kernel_rfl) (by kernel_rfl) (by kernel_rfl) (fun _ _ _ h => h) (Or.inl ⟨by rfl, ?_⟩) (by assumption) ?_
  rotate_left
  · (intro w hSw; (try dsimp only at hSw); go_simp; (try with_reducible rfl))
  try simp only [List.getElem_toArray, List.getElem_cons_succ, List.getElem_cons_zero, Act.put, List.setIfInBounds_toArray, List.set_cons_zero, List.set_cons_succ]
  refine wpAnyH_take (i := 10) (v := ?_) rfl (by kernel_rfl) (by kernel_rfl) (by kernel_rfl) (fun _ _ _ h => h) (Or.inl ⟨by rfl, ?_⟩) (by assumption) ?_
  rotate_left
  · (intro w hSw; (try dsimp only at hSw); go_simp; (try with_reducible rfl))
  try simp only [List.getElem_toArray, List.getElem_cons_succ, List.getElem_cons_zero, Act.put, List.setIfInBounds_toArray, List.set_cons_zero, List.set_cons_succ]
  refine wpAnyH_ready (rs := [9]) (by kernel_rfl) (by simp) (AllReadyH.cons rfl (fun K hK => ?_) AllReadyH.nil)
  go_simp
  refine (l07Number_any _ _ _ _ _ _ _ _ _ ys _ HID.out (R1.out.below S2.out.below) (by omega)).mono ?_
  rintro e w3 ⟨rfl, b3⟩
  rw [HX.out]
  have S3 := Lib.hid (S2.out.call b3)
  have hc3 := (b3.cell (p := ⟨b, off, none⟩) (World.block_lt_of_cell? _ _ hc2)).trans hc2
  clear b3
  go_wp2_with fail
  refine hK.out _ _ ?_ (fun hHeld => ?_)
  · exact ⟨hc3, OpenSt.cells S3.out⟩
  clear hK K
  try simp only [List.getElem_toArray, List.getElem_cons_succ, List.getElem_cons_zero, Act.put, List.setIfInBounds_toArray, List.set_cons_zero, List.set_cons_succ]
  have hxd := HD.out
  refine wpAnyH_take (i := 11) (v := ?_) rfl (by kernel_rfl) (by kernel_rfl) (by kernel_rfl) (fun _ _ _ h => h) (Or.inl ⟨by rfl, ?_⟩) (by assumption) ?_
  rotate_left
  · (intro w hSw; (try dsimp only at hSw); go_simp; (try with_reducible rfl))
  try simp only [List.getElem_toArray, List.getElem_cons_succ, List.getElem_cons_zero, Act.put, List.setIfInBounds_toArray, List.set_cons_zero, List.set_cons_succ]
  refine wpAnyH_done (by kernel_rfl) ?_ _
  clear S2 hc2 hc3 hd1
  go_wp2_with fail
  clear hxd
  refine (HFF.out _ _ (R1.out.below S3.out.below) (by omega) (by omega)).mono ?_
  rintro e w8 ⟨p8, c8, rfl, o8, b8⟩
  simp only at o8 ⊢
  have hsz := S3.out.size
  have S8 := Lib.hid (S3.out.call b8)
  have O8 := Lib.hid (o8.more (base' := w.heap.size + 2) hsz)
  have hd8 := Below.alloc (Below.refl w8.heap.size w8) (Nat.le_refl _) (.cells #[.int .i64 a, .int .i64 q, .int .i64 u0, .int .i64 u1, .int .i64 u2, .int .i64 u3, .int .i64 u4, .slice p8 d.length c8] 28)
  have X8 := Lib.hid (FrameAt.new (T := 28) (a := a) (q := q) (t := u0) (m := u1) (r := u2) (s := u3) (k := u4) (v := .slice p8 d.length c8) w8)
  have S9 := Lib.hid (S8.out.call hd8)
  have O9 := Lib.hid (O8.out.below hd8)
  clear o8 b8 hsz hd8 S3 S8 O8
  go_upto_region 10 with fail
  obtain ⟨J, hJ⟩ : ∃ J, J = w8.heap.size := ⟨_, rfl⟩
  rw [← hJ] at X8 ⊢
  clear hJ
  generalize w8.alloc (.cells #[.int .i64 a, .int .i64 q, .int .i64 u0, .int .i64 u1, .int .i64 u2, .int .i64 u3, .int .i64 u4, .slice p8 d.length c8] 28) = w9 at S9 O9 X8 ⊢
  have x0 := X8.out.c0
  go_wp2_with fail
  clear x0
  refine (l06State_any _ _).mono ?_
  rintro e w10 ⟨rfl, rfl⟩
  rw [HST.out]
  have rc0 := S9.out.res.c0
  have rf0 := S9.out.res.f 0
  have rc1 := S9.out.res.c1
  have rf1 := S9.out.res.f 1
  have rc2 := S9.out.res.c2
  have rf2 := S9.out.res.f 2
  have rc3 := S9.out.res.c3
  have rf3 := S9.out.res.f 3
  have rc4 := S9.out.res.c4
  have rf4 := S9.out.res.f 4
  have rc5 := S9.out.res.c5
  have rf5 := S9.out.res.f 5
  have rc6 := S9.out.res.c6
  have rf6 := S9.out.res.f 6
  have rc7 := S9.out.res.c7
  have rf7 := S9.out.res.f 7
  obtain ⟨x0, x1, x2, x3, x4, x5, x6, x7⟩ := frame_cells X8.out
  obtain ⟨d0, d1, d2, d3, d4⟩ := S9.out.cells
  go_wp2_with fail
  clear x0 x1 x2 x3 x4 x5 x6 x7 d0 d1 d2 d3 d4 rc0 rf0 rc1 rf1 rc2 rf2 rc3 rf3 rc4 rf4 rc5 rf5 rc6 rf6 rc7 rf7
  change bodyPost _ _ _ _ _ (setEight w9 (w.heap.size + 1) 0 0 0 0 0 0 0 (.slice none 0 0))
  obtain ⟨SF, BF⟩ := S9.out.fin 0 0 0 0 0 0 0 (.slice none 0 0)
  generalize setEight w9 (w.heap.size + 1) 0 0 0 0 0 0 0 (.slice none 0 0) = wz at SF BF ⊢
  have e0 := SF.c0
  have e1 := SF.c1
  have e2 := SF.c2
  have e3 := SF.c3
  have e4 := SF.c4
  have e5 := SF.c5
  have e6 := SF.c6
  have e7 := SF.c7
  exact bodyPost_ret (v := .tuple #[.agg #[.int .i64 0, .int .i64 0, .int .i64 0, .int .i64 0, .int .i64 0, .int .i64 0, .int .i64 0, .slice none 0 0], .int .i64 5]) (by simp [results, Try.results93, go_sem, e0, e1, e2, e3, e4, e5, e6, e7]) rfl ⟨_, _, rfl, Own.nil_, BF⟩
set_option linter.unusedSimpArgs false in
set_option linter.unusedVariables false in
set_option maxHeartbeats 1000000 in
set_option maxRecDepth 100000 in
theorem so_G1 (b off c : Nat) (id t m r s k h x p0 p1 p2 : Int) (ys xs : List Int) (w : World) (hr : Rd w (some ⟨b, off, none⟩) (ys.length + 3) xs) (hn : ys.length + 3 ≤ 1024) (hnc : ys.length ≤ c) (hcap2 : c + 3 ≤ 9223372036854775807) (hi : inRange 0 16777215 id = true) (hl : 1 ≤ ys.length) (hh : xs.getD 0 0 = h) (hh2 : 0 ≤ h ∧ h ≤ 255) (hy : xs.take ys.length = ys) (hp0 : xs.getD ys.length 0 = p0) (hp1 : xs.getD (ys.length + 1) 0 = p1) (hp2 : xs.getD (ys.length + 2) 0 = p2) (hb0 : 0 ≤ p0 ∧ p0 ≤ 255) (hb1 : 0 ≤ p1 ∧ p1 ≤ 255) (hb2 : 0 ≤ p2 ∧ p2 ≤ 255) (hx : sealNum (h / 64) id t m r s k ys = x) (a q u0 u1 u2 u3 u4 : Int) (d : List Int) (hff : ∀ (W : World) (cc : Nat), Rd W (some ⟨b, off, none⟩) ys.length ys → ys.length ≤ cc → cc ≤ 9223372036854775807 → Calls Try.prog 134 #[.slice (some ⟨b, off, none⟩) ys.length cc] W (GivesFB W ⟨a, q, u0, u1, u2, u3, u4, d⟩ (.bool true))) (hdl : d.length ≤ 1024) (hd : (x != p0 * 65536 + p1 * 256 + p2) = false) (hst : (a != 0) = false) : Calls Try.prog 93 #[.slice (some ⟨b, off, none⟩) (ys.length + 3) (c + 3), .int .i64 id, .agg #[.int .i64 t, .int .i64 m, .int .i64 r, .int .i64 s, .int .i64 k]] w (GivesFB w ⟨a, q, u0, u1, u2, u3, u4, d⟩ (.int .i64 0)) := by
  have HFF := Lib.hid hff; clear hff
  have HST := Lib.hid hst; clear hst
  have S0 := Lib.hid (OpenSt.start (t := t) (m := m) (r := r) (s := s) (k := k) w)
  obtain ⟨b', off', e', hat⟩ := (hr.below S0.out.below).here (by omega)
  cases e'
  have hc0 := hat 0 (by omega)
  rw [hh, Nat.add_zero] at hc0
  have hq0 := hat ys.length (by omega)
  rw [hp0] at hq0
  have hq1 := hat (ys.length + 1) (by omega)
  rw [hp1] at hq1
  have hq2 := hat (ys.length + 2) (by omega)
  rw [hp2] at hq2
  clear hat hh hp0 hp1 hp2
  have h1 := hr.first (a := ys.length) (by omega)
  rw [hy] at h1
  have R1 := Lib.hid h1
  clear h1
  have HX := Lib.hid hx; have HID := Lib.hid (inRange_iff.1 hi); have HD := Lib.hid hd
  have HBL : Hid (b < w.heap.size) := Lib.hid (by obtain ⟨_, _, e2, hl2⟩ := hr.block (by omega); cases e2; exact hl2)
  clear hr hi hy hx hd
  have hw : IntKind.i64.wrap ((ys.length : Int) + 3 - 3) = (ys.length : Int) := by rw [IntKind.wrap_i64]; omega
  have hlt : ¬ ((ys.length : Int) < 1) := by omega
  have h0c : (ys.length : Int) ≤ (c : Int) + 3 := by omega
  have h1c : (ys.length : Int) < (ys.length : Int) + 3 := by omega
  have h2c : (ys.length : Int) + 1 < (ys.length : Int) + 3 := by omega
  have h3c : (ys.length : Int) + 2 < (ys.length : Int) + 3 := by omega
  have h7c : (0 : Int) < (ys.length : Int) + 3 := by omega
  have h4c : (0 : Int) ≤ (ys.length : Int) + 1 := by omega
  have h5c : (0 : Int) ≤ (ys.length : Int) + 2 := by omega
  have h6c : ((ys.length : Int) + 2).toNat = ys.length + 2 := by omega
  have w1' : IntKind.i64.wrap (p0 * 65536) = p0 * 65536 := by rw [IntKind.wrap_i64]; omega
  have w2' : IntKind.i64.wrap (p1 * 256) = p1 * 256 := by rw [IntKind.wrap_i64]; omega
  have w3' : IntKind.i64.wrap (p0 * 65536 + p1 * 256) = p0 * 65536 + p1 * 256 := by rw [IntKind.wrap_i64]; omega
  have w4' : IntKind.i64.wrap (p0 * 65536 + p1 * 256 + p2) = p0 * 65536 + p1 * 256 + p2 := by rw [IntKind.wrap_i64]; omega
  have w5' : IntKind.i64.wrap ((ys.length : Int) + 1) = (ys.length : Int) + 1 := by rw [IntKind.wrap_i64]; omega
  have w6' : IntKind.i64.wrap ((ys.length : Int) + 2) = (ys.length : Int) + 2 := by rw [IntKind.wrap_i64]; omega
  have hd1 : IntKind.i64.wrap (h.tdiv 64) = h / 64 := by rw [Int.tdiv_eq_ediv_of_nonneg hh2.1, IntKind.wrap_i64]; omega
  go_enter Try.func93, Try.ntmps93
  go_upto_region 1 with fail
  generalize (w.alloc (.cells #[.int .i64 t, .int .i64 m, .int .i64 r, .int .i64 s, .int .i64 k] 25)).alloc (.cells #[.int .i64 0, .int .i64 0, .int .i64 0, .int .i64 0, .int .i64 0, .int .i64 0, .int .i64 0, .slice none 0 0] 28) = w0 at S0 hc0 hq0 hq1 hq2 ⊢
  go_upto_region 4 with fail
  have S1 := Lib.hid S0.out.drew
  clear S0
  refine wp_region_held_drew (S := fun w' => w'.cell? ⟨b, off + ys.length, none⟩ = some (.int .i64 p0) ∧ w'.cell? ⟨b, off + (ys.length + 1), none⟩ = some (.int .i64 p1) ∧ w'.cell? ⟨b, off + (ys.length + 2), none⟩ = some (.int .i64 p2)) (by kernel_rfl) (⟨hq0, hq1, hq2⟩) (fun hHeld => ?_)
  refine wpAnyH_take (i := 0) (v := ?_) rfl (by kernel_rfl) (by kernel_rfl) (by kernel_rfl) (fun _ _ _ h => h) (Or.inl ⟨by rfl, ?_⟩) (by assumption) ?_
  rotate_left
  · (intro w hSw; (try dsimp only at hSw); go_simp; (try with_reducible rfl))
  try simp only [List.getElem_toArray, List.getElem_cons_succ, List.getElem_cons_zero, Act.put, List.setIfInBounds_toArray, List.set_cons_zero, List.set_cons_succ]
  refine wpAnyH_take (i := 1) (v := ?_) rfl (by kernel_rfl) (by kernel_rfl) (by kernel_rfl) (fun _ _ _ h => h) (Or.inl ⟨by rfl, ?_⟩) (by assumption) ?_
  rotate_left
  · (intro w hSw; (try dsimp only at hSw); go_simp; (try with_reducible rfl))
  try simp only [List.getElem_toArray, List.getElem_cons_succ, List.getElem_cons_zero, Act.put, List.setIfInBounds_toArray, List.set_cons_zero, List.set_cons_succ]
  refine wpAnyH_take (i := 2) (v := ?_) rfl (by kernel_rfl) (by kernel_rfl) (by kernel_rfl) (fun _ _ _ h => h) (Or.inl ⟨by rfl, ?_⟩) (by assumption) ?_
  rotate_left
  · (intro w hSw; (try dsimp only at hSw); go_simp; (try with_reducible rfl))
  try simp only [List.getElem_toArray, List.getElem_cons_succ, List.getElem_cons_zero, Act.put, List.setIfInBounds_toArray, List.set_cons_zero, List.set_cons_succ]
  refine wpAnyH_take (i := 3) (v := ?_) rfl (by kernel_rfl) (by kernel_rfl) (by kernel_rfl) (fun _ _ _ h => h) (Or.inl ⟨by rfl, ?_⟩) (by assumption) ?_
  rotate_left
  · (intro w hSw; (try dsimp only at hSw); go_simp; (try with_reducible rfl))
  try simp only [List.getElem_toArray, List.getElem_cons_succ, List.getElem_cons_zero, Act.put, List.setIfInBounds_toArray, List.set_cons_zero, List.set_cons_succ]
  refine wpAnyH_take (i := 4) (v := ?_) rfl (by kernel_rfl) (by kernel_rfl) (by kernel_rfl) (fun _ _ _ h => h) (Or.inl ⟨by rfl, ?_⟩) (by assumption) ?_
  rotate_left
  · (intro w hSw; (try dsimp only at hSw); go_simp; (try with_reducible rfl))
  try simp only [List.getElem_toArray, List.getElem_cons_succ, List.getElem_cons_zero, Act.put, List.setIfInBounds_toArray, List.set_cons_zero, List.set_cons_succ]
  refine wpAnyH_take (i := 5) (v := ?_) rfl (by kernel_rfl) (by kernel_rfl) (by kernel_rfl) (fun _ _ _ h => h) (Or.inl ⟨by rfl, ?_⟩) (by assumption) ?_
  rotate_left
  · (intro w hSw; (try dsimp only at hSw); go_simp; (try with_reducible rfl))
  try simp only [List.getElem_toArray, List.getElem_cons_succ, List.getElem_cons_zero, Act.put, List.setIfInBounds_toArray, List.set_cons_zero, List.set_cons_succ]
  refine wpAnyH_take (i := 6) (v := ?_) rfl (by kernel_rfl) (by kernel_rfl) (by kernel_rfl) (fun _ _ _ h => h) (Or.inl ⟨by rfl, ?_⟩) (by assumption) ?_
  rotate_left
  · (intro w hSw; (try dsimp only at hSw); go_simp; (try with_reducible rfl))
  try simp only [List.getElem_toArray, List.getElem_cons_succ, List.getElem_cons_zero, Act.put, List.setIfInBounds_toArray, List.set_cons_zero, List.set_cons_succ]
  refine wpAnyH_take (i := 7) (v := ?_) rfl (by kernel_rfl) (by kernel_rfl) (by kernel_rfl) (fun _ _ _ h => h) (Or.inl ⟨by rfl, ?_⟩) (by assumption) ?_
  rotate_left
  · (intro w hSw; (try dsimp only at hSw); go_simp; (try with_reducible rfl))
  try simp only [List.getElem_toArray, List.getElem_cons_succ, List.getElem_cons_zero, Act.put, List.setIfInBounds_toArray, List.set_cons_zero, List.set_cons_succ]
  refine wpAnyH_take (i := 8) (v := ?_) rfl (by kernel_rfl) (by kernel_rfl) (by kernel_rfl) (fun _ _ _ h => h) (Or.inl ⟨by rfl, ?_⟩) (by assumption) ?_
  rotate_left
  · (intro w hSw; (try dsimp only at hSw); go_simp; (try with_reducible rfl))
  try simp only [List.getElem_toArray, List.getElem_cons_succ, List.getElem_cons_zero, Act.put, List.setIfInBounds_toArray, List.set_cons_zero, List.set_cons_succ]
  refine wpAnyH_take (i := 9) (v := ?_) rfl (by kernel_rfl) (by kernel_rfl) (by kernel_rfl) (fun _ _ _ h => h) (Or.inl ⟨by rfl, ?_⟩) (by assumption) ?_
  rotate_left
  · (intro w hSw; (try dsimp only at hSw); go_simp; (try with_reducible rfl))
  try simp only [List.getElem_toArray, List.getElem_cons_succ, List.getElem_cons_zero, Act.put, List.setIfInBounds_toArray, List.set_cons_zero, List.set_cons_succ]
  refine wpAnyH_take (i := 10) (v := ?_) rfl (by kernel_rfl) (by kernel_rfl) (by kernel_rfl) (fun _ _ _ h => h) (Or.inl ⟨by rfl, ?_⟩) (by assumption) ?_
  rotate_left
  · (intro w hSw; (try dsimp only at hSw); go_simp; (try with_reducible rfl))
  try simp only [List.getElem_toArray, List.getElem_cons_succ, List.getElem_cons_zero, Act.put, List.setIfInBounds_toArray, List.set_cons_zero, List.set_cons_succ]
  refine wpAnyH_take (i := 11) (v := ?_) rfl (by kernel_rfl) (by kernel_rfl) (by kernel_rfl) (fun _ _ _ h => h) (Or.inl ⟨by rfl, ?_⟩) (by assumption) ?_
  rotate_left
  · (intro w hSw; (try dsimp only at hSw); go_simp; (try with_reducible rfl))
  try simp only [List.getElem_toArray, List.getElem_cons_succ, List.getElem_cons_zero, Act.put, List.setIfInBounds_toArray, List.set_cons_zero, List.set_cons_succ]
  refine wpAnyH_take (i := 12) (v := ?_) rfl (by kernel_rfl) (by kernel_rfl) (by kernel_rfl) (fun _ _ _ h => h) (Or.inl ⟨by rfl, ?_⟩) (by assumption) ?_
  rotate_left
  · (intro w hSw; (try dsimp only at hSw); go_simp; (try with_reducible rfl))
  try simp only [List.getElem_toArray, List.getElem_cons_succ, List.getElem_cons_zero, Act.put, List.setIfInBounds_toArray, List.set_cons_zero, List.set_cons_succ]
  refine wpAnyH_take (i := 13) (v := ?_) rfl (by kernel_rfl) (by kernel_rfl) (by kernel_rfl) (fun _ _ _ h => h) (Or.inl ⟨by rfl, ?_⟩) (by assumption) ?_
  rotate_left
  · (intro w hSw; (try dsimp only at hSw); go_simp; (try with_reducible rfl))
  try simp only [List.getElem_toArray, List.getElem_cons_succ, List.getElem_cons_zero, Act.put, List.setIfInBounds_toArray, List.set_cons_zero, List.set_cons_succ]
  refine wpAnyH_take (i := 14) (v := ?_) rfl (by kernel_rfl) (by kernel_rfl) (by kernel_rfl) (fun _ _ _ h => h) (Or.inl ⟨by rfl, ?_⟩) (by assumption) ?_
  rotate_left
  · (intro w hSw; (try dsimp only at hSw); go_simp; (try with_reducible rfl))
  try simp only [List.getElem_toArray, List.getElem_cons_succ, List.getElem_cons_zero, Act.put, List.setIfInBounds_toArray, List.set_cons_zero, List.set_cons_succ]
  refine wpAnyH_take (i := 15) (v := ?_) rfl (by kernel_rfl) (by kernel_rfl) (by kernel_rfl) (fun _ _ _ h => h) (Or.inl ⟨by rfl, ?_⟩) (by assumption) ?_
  rotate_left
  · (intro w hSw; (try dsimp only at hSw); go_simp; (try with_reducible rfl))
  try simp only [List.getElem_toArray, List.getElem_cons_succ, List.getElem_cons_zero, Act.put, List.setIfInBounds_toArray, List.set_cons_zero, List.set_cons_succ]
  refine wpAnyH_take (i := 16) (v := ?_) rfl (by kernel_rfl) (by kernel_rfl) (by kernel_rfl) (fun _ _ _ h => h) (Or.inl ⟨by rfl, ?_⟩) (by assumption) ?_
  rotate_left
  · (intro w hSw; (try dsimp only at hSw); go_simp; (try with_reducible rfl))
  try simp only [List.getElem_toArray, List.getElem_cons_succ, List.getElem_cons_zero, Act.put, List.setIfInBounds_toArray, List.set_cons_zero, List.set_cons_succ]
  refine wpAnyH_take (i := 17) (v := ?_) rfl (by kernel_rfl) (by kernel_rfl) (by kernel_rfl) (fun _ _ _ h => h) (Or.inl ⟨by rfl, ?_⟩) (by assumption) ?_
  rotate_left
  · (intro w hSw; (try dsimp only at hSw); go_simp; (try with_reducible rfl))
  try simp only [List.getElem_toArray, List.getElem_cons_succ, List.getElem_cons_zero, Act.put, List.setIfInBounds_toArray, List.set_cons_zero, List.set_cons_succ]
  refine wpAnyH_take (i := 18) (v := ?_) rfl (by kernel_rfl) (by kernel_rfl) (by kernel_rfl) (fun _ _ _ h => h) (Or.inl ⟨by rfl, ?_⟩) (by assumption) ?_
  rotate_left
  · (intro w hSw; (try dsimp only at hSw); go_simp; (try with_reducible rfl))
  try simp only [List.getElem_toArray, List.getElem_cons_succ, List.getElem_cons_zero, Act.put, List.setIfInBounds_toArray, List.set_cons_zero, List.set_cons_succ]
  refine wpAnyH_done (by kernel_rfl) ?_ _
  clear hq0 hq1 hq2 w1' w2' w3' w4' w5' w6'
  go_upto_region 5 with fail
  have S2 := Lib.hid S1.out.drew
  have hc2 : w0.drew.drew.cell? ⟨b, off, none⟩ = some (.int .i64 h) := hc0
  clear S1 hc0
  generalize w0.drew = w2 at S2 hc2 ⊢
  refine wp_region_held_drew (S := fun w' => w'.cell? ⟨b, off, none⟩ = some (.int .i64 h) ∧ w'.cell? ⟨w.heap.size, 0, none⟩ = some (.int .i64 t) ∧ w'.cell? ⟨w.heap.size, 1, none⟩ = some (.int .i64 m) ∧ w'.cell? ⟨w.heap.size, 2, none⟩ = some (.int .i64 r) ∧ w'.cell? ⟨w.heap.size, 3, none⟩ = some (.int .i64 s) ∧ w'.cell? ⟨w.heap.size, 4, none⟩ = some (.int .i64 k)) (by kernel_rfl) (⟨hc2, OpenSt.cells S2.out⟩) (fun hHeld => ?_)
  refine wpAnyH_take (i := 0) (v := ?_) rfl (by kernel_rfl) (by kernel_rfl) (by kernel_rfl) (fun _ _ _ h => h) (Or.inl ⟨by rfl, ?_⟩) (by assumption) ?_
  rotate_left
  · (intro w hSw; (try dsimp only at hSw); go_simp; (try with_reducible rfl))
  try simp only [List.getElem_toArray, List.getElem_cons_succ, List.getElem_cons_zero, Act.put, List.setIfInBounds_toArray, List.set_cons_zero, List.set_cons_succ]
  refine wpAnyH_take (i := 1) (v := ?_) rfl (by kernel_rfl) (by kernel_rfl) (by kernel_rfl) (fun _ _ _ h => h) (Or.inl ⟨by rfl, ?_⟩) (by assumption) ?_
  rotate_left
  · (intro w hSw; (try dsimp only at hSw); go_simp; (try with_reducible rfl))
  try simp only [List.getElem_toArray, List.getElem_cons_succ, List.getElem_cons_zero, Act.put, List.setIfInBounds_toArray, List.set_cons_zero, List.set_cons_succ]
  refine wpAnyH_take (i := 2) (v := ?_) rfl (by kernel_rfl) (by kernel_rfl) (by kernel_rfl) (fun _ _ _ h => h) (Or.inl ⟨by rfl, ?_⟩) (by assumption) ?_
  rotate_left
  · (intro w hSw; (try dsimp only at hSw); go_simp; (try with_reducible rfl))
  try simp only [List.getElem_toArray, List.getElem_cons_succ, List.getElem_cons_zero, Act.put, List.setIfInBounds_toArray, List.set_cons_zero, List.set_cons_succ]
  refine wpAnyH_take (i := 3) (v := ?_) rfl (by kernel_rfl) (by kernel_rfl) (by kernel_rfl) (fun _ _ _ h => h) (Or.inl ⟨by rfl, ?_⟩) (by assumption) ?_
  rotate_left
  · (intro w hSw; (try dsimp only at hSw); go_simp; (try with_reducible rfl))
  try simp only [List.getElem_toArray, List.getElem_cons_succ, List.getElem_cons_zero, Act.put, List.setIfInBounds_toArray, List.set_cons_zero, List.set_cons_succ]
  refine wpAnyH_take (i := 4) (v := ?_) rfl (by kernel_rfl) (by kernel_rfl) (by kernel_rfl) (fun _ _ _ h => h) (Or.inl ⟨by rfl, ?_⟩) (by assumption) ?_
  rotate_left
  · (intro w hSw; (try dsimp only at hSw); go_simp; (try with_reducible rfl))
  try simp only [List.getElem_toArray, List.getElem_cons_succ, List.getElem_cons_zero, Act.put, List.setIfInBounds_toArray, List.set_cons_zero, List.set_cons_succ]
  refine wpAnyH_take (i := 5) (v := ?_) rfl (by kernel_rfl) (by kernel_rfl) (by kernel_rfl) (fun _ _ _ h => h) (Or.inl ⟨by rfl, ?_⟩) (by assumption) ?_
  rotate_left
  · (intro w hSw; (try dsimp only at hSw); go_simp; (try with_reducible rfl))
  try simp only [List.getElem_toArray, List.getElem_cons_succ, List.getElem_cons_zero, Act.put, List.setIfInBounds_toArray, List.set_cons_zero, List.set_cons_succ]
  refine wpAnyH_take (i := 6) (v := ?_) rfl (by kernel_rfl) (by kernel_rfl) (by kernel_rfl) (fun _ _ _ h => h) (Or.inl ⟨by rfl, ?_⟩) (by assumption) ?_
  rotate_left
  · (intro w hSw; (try dsimp only at hSw); go_simp; (try with_reducible rfl))
  try simp only [List.getElem_toArray, List.getElem_cons_succ, List.getElem_cons_zero, Act.put, List.setIfInBounds_toArray, List.set_cons_zero, List.set_cons_succ]
  refine wpAnyH_take (i := 7) (v := ?_) rfl (by kernel_rfl) (by kernel_rfl) (by kernel_rfl) (fun _ _ _ h => h) (Or.inl ⟨by rfl, ?_⟩) (by assumption) ?_
  rotate_left
  · (intro w hSw; (try dsimp only at hSw); go_simp; (try with_reducible rfl))
  try simp only [List.getElem_toArray, List.getElem_cons_succ, List.getElem_cons_zero, Act.put, List.setIfInBounds_toArray, List.set_cons_zero, List.set_cons_succ]
  refine wpAnyH_take (i := 8) (v := ?_) rfl (by kernel_rfl) (by kernel_rfl) (by kernel_rfl) (fun _ _ _ h => h) (Or.inl ⟨by rfl, ?_⟩) (by assumption) ?_
  rotate_left
  · (intro w hSw; (try dsimp only at hSw); go_simp; (try with_reducible rfl))
  try simp only [List.getElem_toArray, List.getElem_cons_succ, List.getElem_cons_zero, Act.put, List.setIfInBounds_toArray, List.set_cons_zero, List.set_cons_succ]
  refine wpAnyH_take (i := 10) (v := ?_) rfl (by kernel_rfl) (by kernel_rfl) (by kernel_rfl) (fun _ _ _ h => h) (Or.inl ⟨by rfl, ?_⟩) (by assumption) ?_
  rotate_left
  · (intro w hSw; (try dsimp only at hSw); go_simp; (try with_reducible rfl))
  try simp only [List.getElem_toArray, List.getElem_cons_succ, List.getElem_cons_zero, Act.put, List.setIfInBounds_toArray, List.set_cons_zero, List.set_cons_succ]
  refine wpAnyH_ready (rs := [9]) (by kernel_rfl) (by simp) (AllReadyH.cons rfl (fun K hK => ?_) AllReadyH.nil)
  go_simp
  refine (l07Number_any _ _ _ _ _ _ _ _ _ ys _ HID.out (R1.out.below S2.out.below) (by omega)).mono ?_
  rintro e w3 ⟨rfl, b3⟩
  rw [HX.out]
  have S3 := Lib.hid (S2.out.call b3)
  have hc3 := (b3.cell (p := ⟨b, off, none⟩) (World.block_lt_of_cell? _ _ hc2)).trans hc2
  clear b3
  go_wp2_with fail
  refine hK.out _ _ ?_ (fun hHeld => ?_)
  · exact ⟨hc3, OpenSt.cells S3.out⟩
  clear hK K
  try simp only [List.getElem_toArray, List.getElem_cons_succ, List.getElem_cons_zero, Act.put, List.setIfInBounds_toArray, List.set_cons_zero, List.set_cons_succ]
  have hxd := HD.out
  refine wpAnyH_take (i := 11) (v := ?_) rfl (by kernel_rfl) (by kernel_rfl) (by kernel_rfl) (fun _ _ _ h => h) (Or.inl ⟨by rfl, ?_⟩) (by assumption) ?_
  rotate_left
  · (intro w hSw; (try dsimp only at hSw); go_simp; (try with_reducible rfl))
  try simp only [List.getElem_toArray, List.getElem_cons_succ, List.getElem_cons_zero, Act.put, List.setIfInBounds_toArray, List.set_cons_zero, List.set_cons_succ]
  refine wpAnyH_done (by kernel_rfl) ?_ _
  clear S2 hc2 hc3 hd1
  go_wp2_with fail
  clear hxd
  refine (HFF.out _ _ (R1.out.below S3.out.below) (by omega) (by omega)).mono ?_
  rintro e w8 ⟨p8, c8, rfl, o8, b8⟩
  simp only at o8 ⊢
  have hsz := S3.out.size
  have S8 := Lib.hid (S3.out.call b8)
  have O8 := Lib.hid (o8.more (base' := w.heap.size + 2) hsz)
  have hd8 := Below.alloc (Below.refl w8.heap.size w8) (Nat.le_refl _) (.cells #[.int .i64 a, .int .i64 q, .int .i64 u0, .int .i64 u1, .int .i64 u2, .int .i64 u3, .int .i64 u4, .slice p8 d.length c8] 28)
  have X8 := Lib.hid (FrameAt.new (T := 28) (a := a) (q := q) (t := u0) (m := u1) (r := u2) (s := u3) (k := u4) (v := .slice p8 d.length c8) w8)
  have S9 := Lib.hid (S8.out.call hd8)
  have O9 := Lib.hid (O8.out.below hd8)
  clear o8 b8 hsz hd8 S3 S8 O8
  go_upto_region 10 with fail
  obtain ⟨J, hJ⟩ : ∃ J, J = w8.heap.size := ⟨_, rfl⟩
  rw [← hJ] at X8 ⊢
  clear hJ
  generalize w8.alloc (.cells #[.int .i64 a, .int .i64 q, .int .i64 u0, .int .i64 u1, .int .i64 u2, .int .i64 u3, .int .i64 u4, .slice p8 d.length c8] 28) = w9 at S9 O9 X8 ⊢
  have x0 := X8.out.c0
  go_wp2_with fail
  clear x0
  refine (l06State_any _ _).mono ?_
  rintro e w10 ⟨rfl, rfl⟩
  rw [HST.out]
  have rc0 := S9.out.res.c0
  have rf0 := S9.out.res.f 0
  have rc1 := S9.out.res.c1
  have rf1 := S9.out.res.f 1
  have rc2 := S9.out.res.c2
  have rf2 := S9.out.res.f 2
  have rc3 := S9.out.res.c3
  have rf3 := S9.out.res.f 3
  have rc4 := S9.out.res.c4
  have rf4 := S9.out.res.f 4
  have rc5 := S9.out.res.c5
  have rf5 := S9.out.res.f 5
  have rc6 := S9.out.res.c6
  have rf6 := S9.out.res.f 6
  have rc7 := S9.out.res.c7
  have rf7 := S9.out.res.f 7
  obtain ⟨x0, x1, x2, x3, x4, x5, x6, x7⟩ := frame_cells X8.out
  obtain ⟨d0, d1, d2, d3, d4⟩ := S9.out.cells
  go_wp2_with fail
  clear x0 x1 x2 x3 x4 x5 x6 x7 d0 d1 d2 d3 d4 rc0 rf0 rc1 rf1 rc2 rf2 rc3 rf3 rc4 rf4 rc5 rf5 rc6 rf6 rc7 rf7
  change bodyPost _ _ _ _ _ (setEight w9 (w.heap.size + 1) a q u0 u1 u2 u3 u4 (.slice p8 d.length c8))
  obtain ⟨SF, BF⟩ := S9.out.fin a q u0 u1 u2 u3 u4 (.slice p8 d.length c8)
  have OF := (O9.out.awayEight (b := w.heap.size + 1) (Nat.lt_succ_self _) a q u0 u1 u2 u3 u4 (.slice p8 d.length c8)).more (base' := w.heap.size) (by omega)
  generalize setEight w9 (w.heap.size + 1) a q u0 u1 u2 u3 u4 (.slice p8 d.length c8) = wz at SF BF OF ⊢
  have e0 := SF.c0
  have e1 := SF.c1
  have e2 := SF.c2
  have e3 := SF.c3
  have e4 := SF.c4
  have e5 := SF.c5
  have e6 := SF.c6
  have e7 := SF.c7
  exact bodyPost_ret (v := .tuple #[.agg #[.int .i64 a, .int .i64 q, .int .i64 u0, .int .i64 u1, .int .i64 u2, .int .i64 u3, .int .i64 u4, .slice p8 d.length c8], .int .i64 0]) (by simp [results, Try.results93, go_sem, e0, e1, e2, e3, e4, e5, e6, e7]) rfl ⟨_, _, rfl, OF, BF⟩
set_option linter.unusedSimpArgs false in
set_option linter.unusedVariables false in
set_option maxHeartbeats 1000000 in
set_option maxRecDepth 100000 in
theorem so_G2 (b off c : Nat) (id t m r s k h x p0 p1 p2 : Int) (ys xs : List Int) (w : World) (hr : Rd w (some ⟨b, off, none⟩) (ys.length + 3) xs) (hn : ys.length + 3 ≤ 1024) (hnc : ys.length ≤ c) (hcap2 : c + 3 ≤ 9223372036854775807) (hi : inRange 0 16777215 id = true) (hl : 1 ≤ ys.length) (hh : xs.getD 0 0 = h) (hh2 : 0 ≤ h ∧ h ≤ 255) (hy : xs.take ys.length = ys) (hp0 : xs.getD ys.length 0 = p0) (hp1 : xs.getD (ys.length + 1) 0 = p1) (hp2 : xs.getD (ys.length + 2) 0 = p2) (hb0 : 0 ≤ p0 ∧ p0 ≤ 255) (hb1 : 0 ≤ p1 ∧ p1 ≤ 255) (hb2 : 0 ≤ p2 ∧ p2 ≤ 255) (hx : sealNum (h / 64) id t m r s k ys = x) (a q u0 u1 u2 u3 u4 : Int) (d : List Int) (hff : ∀ (W : World) (cc : Nat), Rd W (some ⟨b, off, none⟩) ys.length ys → ys.length ≤ cc → cc ≤ 9223372036854775807 → Calls Try.prog 134 #[.slice (some ⟨b, off, none⟩) ys.length cc] W (GivesFB W ⟨a, q, u0, u1, u2, u3, u4, d⟩ (.bool true))) (hdl : d.length ≤ 1024) (hd : (x != p0 * 65536 + p1 * 256 + p2) = false) (hst : (a != 0) = true) (hne : u0 = t ∧ u1 = m ∧ u2 = r ∧ u3 = s ∧ u4 = k) : Calls Try.prog 93 #[.slice (some ⟨b, off, none⟩) (ys.length + 3) (c + 3), .int .i64 id, .agg #[.int .i64 t, .int .i64 m, .int .i64 r, .int .i64 s, .int .i64 k]] w (GivesFB w ⟨a, q, u0, u1, u2, u3, u4, d⟩ (.int .i64 0)) := by
  obtain ⟨rfl, rfl, rfl, rfl, rfl⟩ := hne
  have HFF := Lib.hid hff; clear hff
  have HST := Lib.hid hst; clear hst
  have hneq := fun W => state_neq_same u0 u1 u2 u3 u4 W
  have S0 := Lib.hid (OpenSt.start (t := u0) (m := u1) (r := u2) (s := u3) (k := u4) w)
  obtain ⟨b', off', e', hat⟩ := (hr.below S0.out.below).here (by omega)
  cases e'
  have hc0 := hat 0 (by omega)
  rw [hh, Nat.add_zero] at hc0
  have hq0 := hat ys.length (by omega)
  rw [hp0] at hq0
  have hq1 := hat (ys.length + 1) (by omega)
  rw [hp1] at hq1
  have hq2 := hat (ys.length + 2) (by omega)
  rw [hp2] at hq2
  clear hat hh hp0 hp1 hp2
  have h1 := hr.first (a := ys.length) (by omega)
  rw [hy] at h1
  have R1 := Lib.hid h1
  clear h1
  have HX := Lib.hid hx; have HID := Lib.hid (inRange_iff.1 hi); have HD := Lib.hid hd
  have HBL : Hid (b < w.heap.size) := Lib.hid (by obtain ⟨_, _, e2, hl2⟩ := hr.block (by omega); cases e2; exact hl2)
  clear hr hi hy hx hd
  have hw : IntKind.i64.wrap ((ys.length : Int) + 3 - 3) = (ys.length : Int) := by rw [IntKind.wrap_i64]; omega
  have hlt : ¬ ((ys.length : Int) < 1) := by omega
  have h0c : (ys.length : Int) ≤ (c : Int) + 3 := by omega
  have h1c : (ys.length : Int) < (ys.length : Int) + 3 := by omega
  have h2c : (ys.length : Int) + 1 < (ys.length : Int) + 3 := by omega
  have h3c : (ys.length : Int) + 2 < (ys.length : Int) + 3 := by omega
  have h7c : (0 : Int) < (ys.length : Int) + 3 := by omega
  have h4c : (0 : Int) ≤ (ys.length : Int) + 1 := by omega
  have h5c : (0 : Int) ≤ (ys.length : Int) + 2 := by omega
  have h6c : ((ys.length : Int) + 2).toNat = ys.length + 2 := by omega
  have w1' : IntKind.i64.wrap (p0 * 65536) = p0 * 65536 := by rw [IntKind.wrap_i64]; omega
  have w2' : IntKind.i64.wrap (p1 * 256) = p1 * 256 := by rw [IntKind.wrap_i64]; omega
  have w3' : IntKind.i64.wrap (p0 * 65536 + p1 * 256) = p0 * 65536 + p1 * 256 := by rw [IntKind.wrap_i64]; omega
  have w4' : IntKind.i64.wrap (p0 * 65536 + p1 * 256 + p2) = p0 * 65536 + p1 * 256 + p2 := by rw [IntKind.wrap_i64]; omega
  have w5' : IntKind.i64.wrap ((ys.length : Int) + 1) = (ys.length : Int) + 1 := by rw [IntKind.wrap_i64]; omega
  have w6' : IntKind.i64.wrap ((ys.length : Int) + 2) = (ys.length : Int) + 2 := by rw [IntKind.wrap_i64]; omega
  have hd1 : IntKind.i64.wrap (h.tdiv 64) = h / 64 := by rw [Int.tdiv_eq_ediv_of_nonneg hh2.1, IntKind.wrap_i64]; omega
  go_enter Try.func93, Try.ntmps93
  go_upto_region 1 with fail
  generalize (w.alloc (.cells #[.int .i64 u0, .int .i64 u1, .int .i64 u2, .int .i64 u3, .int .i64 u4] 25)).alloc (.cells #[.int .i64 0, .int .i64 0, .int .i64 0, .int .i64 0, .int .i64 0, .int .i64 0, .int .i64 0, .slice none 0 0] 28) = w0 at S0 hc0 hq0 hq1 hq2 ⊢
  go_upto_region 4 with fail
  have S1 := Lib.hid S0.out.drew
  clear S0
  refine wp_region_held_drew (S := fun w' => w'.cell? ⟨b, off + ys.length, none⟩ = some (.int .i64 p0) ∧ w'.cell? ⟨b, off + (ys.length + 1), none⟩ = some (.int .i64 p1) ∧ w'.cell? ⟨b, off + (ys.length + 2), none⟩ = some (.int .i64 p2)) (by kernel_rfl) (⟨hq0, hq1, hq2⟩) (fun hHeld => ?_)
  refine wpAnyH_take (i := 0) (v := ?_) rfl (by kernel_rfl) (by kernel_rfl) (by kernel_rfl) (fun _ _ _ h => h) (Or.inl ⟨by rfl, ?_⟩) (by assumption) ?_
  rotate_left
  · (intro w hSw; (try dsimp only at hSw); go_simp; (try with_reducible rfl))
  try simp only [List.getElem_toArray, List.getElem_cons_succ, List.getElem_cons_zero, Act.put, List.setIfInBounds_toArray, List.set_cons_zero, List.set_cons_succ]
  refine wpAnyH_take (i := 1) (v := ?_) rfl (by kernel_rfl) (by kernel_rfl) (by kernel_rfl) (fun _ _ _ h => h) (Or.inl ⟨by rfl, ?_⟩) (by assumption) ?_
  rotate_left
  · (intro w hSw; (try dsimp only at hSw); go_simp; (try with_reducible rfl))
  try simp only [List.getElem_toArray, List.getElem_cons_succ, List.getElem_cons_zero, Act.put, List.setIfInBounds_toArray, List.set_cons_zero, List.set_cons_succ]
  refine wpAnyH_take (i := 2) (v := ?_) rfl (by kernel_rfl) (by kernel_rfl) (by kernel_rfl) (fun _ _ _ h => h) (Or.inl ⟨by rfl, ?_⟩) (by assumption) ?_
  rotate_left
  · (intro w hSw; (try dsimp only at hSw); go_simp; (try with_reducible rfl))
  try simp only [List.getElem_toArray, List.getElem_cons_succ, List.getElem_cons_zero, Act.put, List.setIfInBounds_toArray, List.set_cons_zero, List.set_cons_succ]
  refine wpAnyH_take (i := 3) (v := ?_) rfl (by kernel_rfl) (by kernel_rfl) (by kernel_rfl) (fun _ _ _ h => h) (Or.inl ⟨by rfl, ?_⟩) (by assumption) ?_
  rotate_left
  · (intro w hSw; (try dsimp only at hSw); go_simp; (try with_reducible rfl))
  try simp only [List.getElem_toArray, List.getElem_cons_succ, List.getElem_cons_zero, Act.put, List.setIfInBounds_toArray, List.set_cons_zero, List.set_cons_succ]
  refine wpAnyH_take (i := 4) (v := ?_) rfl (by kernel_rfl) (by kernel_rfl) (by kernel_rfl) (fun _ _ _ h => h) (Or.inl ⟨by rfl, ?_⟩) (by assumption) ?_
  rotate_left
  · (intro w hSw; (try dsimp only at hSw); go_simp; (try with_reducible rfl))
  try simp only [List.getElem_toArray, List.getElem_cons_succ, List.getElem_cons_zero, Act.put, List.setIfInBounds_toArray, List.set_cons_zero, List.set_cons_succ]
  refine wpAnyH_take (i := 5) (v := ?_) rfl (by kernel_rfl) (by kernel_rfl) (by kernel_rfl) (fun _ _ _ h => h) (Or.inl ⟨by rfl, ?_⟩) (by assumption) ?_
  rotate_left
  · (intro w hSw; (try dsimp only at hSw); go_simp; (try with_reducible rfl))
  try simp only [List.getElem_toArray, List.getElem_cons_succ, List.getElem_cons_zero, Act.put, List.setIfInBounds_toArray, List.set_cons_zero, List.set_cons_succ]
  refine wpAnyH_take (i := 6) (v := ?_) rfl (by kernel_rfl) (by kernel_rfl) (by kernel_rfl) (fun _ _ _ h => h) (Or.inl ⟨by rfl, ?_⟩) (by assumption) ?_
  rotate_left
  · (intro w hSw; (try dsimp only at hSw); go_simp; (try with_reducible rfl))
  try simp only [List.getElem_toArray, List.getElem_cons_succ, List.getElem_cons_zero, Act.put, List.setIfInBounds_toArray, List.set_cons_zero, List.set_cons_succ]
  refine wpAnyH_take (i := 7) (v := ?_) rfl (by kernel_rfl) (by kernel_rfl) (by kernel_rfl) (fun _ _ _ h => h) (Or.inl ⟨by rfl, ?_⟩) (by assumption) ?_
  rotate_left
  · (intro w hSw; (try dsimp only at hSw); go_simp; (try with_reducible rfl))
  try simp only [List.getElem_toArray, List.getElem_cons_succ, List.getElem_cons_zero, Act.put, List.setIfInBounds_toArray, List.set_cons_zero, List.set_cons_succ]
  refine wpAnyH_take (i := 8) (v := ?_) rfl (by kernel_rfl) (by kernel_rfl) (by kernel_rfl) (fun _ _ _ h => h) (Or.inl ⟨by rfl, ?_⟩) (by assumption) ?_
  rotate_left
  · (intro w hSw; (try dsimp only at hSw); go_simp; (try with_reducible rfl))
  try simp only [List.getElem_toArray, List.getElem_cons_succ, List.getElem_cons_zero, Act.put, List.setIfInBounds_toArray, List.set_cons_zero, List.set_cons_succ]
  refine wpAnyH_take (i := 9) (v := ?_) rfl (by kernel_rfl) (by kernel_rfl) (by kernel_rfl) (fun _ _ _ h => h) (Or.inl ⟨by rfl, ?_⟩) (by assumption) ?_
  rotate_left
  · (intro w hSw; (try dsimp only at hSw); go_simp; (try with_reducible rfl))
  try simp only [List.getElem_toArray, List.getElem_cons_succ, List.getElem_cons_zero, Act.put, List.setIfInBounds_toArray, List.set_cons_zero, List.set_cons_succ]
  refine wpAnyH_take (i := 10) (v := ?_) rfl (by kernel_rfl) (by kernel_rfl) (by kernel_rfl) (fun _ _ _ h => h) (Or.inl ⟨by rfl, ?_⟩) (by assumption) ?_
  rotate_left
  · (intro w hSw; (try dsimp only at hSw); go_simp; (try with_reducible rfl))
  try simp only [List.getElem_toArray, List.getElem_cons_succ, List.getElem_cons_zero, Act.put, List.setIfInBounds_toArray, List.set_cons_zero, List.set_cons_succ]
  refine wpAnyH_take (i := 11) (v := ?_) rfl (by kernel_rfl) (by kernel_rfl) (by kernel_rfl) (fun _ _ _ h => h) (Or.inl ⟨by rfl, ?_⟩) (by assumption) ?_
  rotate_left
  · (intro w hSw; (try dsimp only at hSw); go_simp; (try with_reducible rfl))
  try simp only [List.getElem_toArray, List.getElem_cons_succ, List.getElem_cons_zero, Act.put, List.setIfInBounds_toArray, List.set_cons_zero, List.set_cons_succ]
  refine wpAnyH_take (i := 12) (v := ?_) rfl (by kernel_rfl) (by kernel_rfl) (by kernel_rfl) (fun _ _ _ h => h) (Or.inl ⟨by rfl, ?_⟩) (by assumption) ?_
  rotate_left
  · (intro w hSw; (try dsimp only at hSw); go_simp; (try with_reducible rfl))
  try simp only [List.getElem_toArray, List.getElem_cons_succ, List.getElem_cons_zero, Act.put, List.setIfInBounds_toArray, List.set_cons_zero, List.set_cons_succ]
  refine wpAnyH_take (i := 13) (v := ?_) rfl (by kernel_rfl) (by kernel_rfl) (by kernel_rfl) (fun _ _ _ h => h) (Or.inl ⟨by rfl, ?_⟩) (by assumption) ?_
  rotate_left
  · (intro w hSw; (try dsimp only at hSw); go_simp; (try with_reducible rfl))
  try simp only [List.getElem_toArray, List.getElem_cons_succ, List.getElem_cons_zero, Act.put, List.setIfInBounds_toArray, List.set_cons_zero, List.set_cons_succ]
  refine wpAnyH_take (i := 14) (v := ?_) rfl (by kernel_rfl) (by kernel_rfl) (by kernel_rfl) (fun _ _ _ h => h) (Or.inl ⟨by rfl, ?_⟩) (by assumption) ?_
  rotate_left
  · (intro w hSw; (try dsimp only at hSw); go_simp; (try with_reducible rfl))
  try simp only [List.getElem_toArray, List.getElem_cons_succ, List.getElem_cons_zero, Act.put, List.setIfInBounds_toArray, List.set_cons_zero, List.set_cons_succ]
  refine wpAnyH_take (i := 15) (v := ?_) rfl (by kernel_rfl) (by kernel_rfl) (by kernel_rfl) (fun _ _ _ h => h) (Or.inl ⟨by rfl, ?_⟩) (by assumption) ?_
  rotate_left
  · (intro w hSw; (try dsimp only at hSw); go_simp; (try with_reducible rfl))
  try simp only [List.getElem_toArray, List.getElem_cons_succ, List.getElem_cons_zero, Act.put, List.setIfInBounds_toArray, List.set_cons_zero, List.set_cons_succ]
  refine wpAnyH_take (i := 16) (v := ?_) rfl (by kernel_rfl) (by kernel_rfl) (by kernel_rfl) (fun _ _ _ h => h) (Or.inl ⟨by rfl, ?_⟩) (by assumption) ?_
  rotate_left
  · (intro w hSw; (try dsimp only at hSw); go_simp; (try with_reducible rfl))
  try simp only [List.getElem_toArray, List.getElem_cons_succ, List.getElem_cons_zero, Act.put, List.setIfInBounds_toArray, List.set_cons_zero, List.set_cons_succ]
  refine wpAnyH_take (i := 17) (v := ?_) rfl (by kernel_rfl) (by kernel_rfl) (by kernel_rfl) (fun _ _ _ h => h) (Or.inl ⟨by rfl, ?_⟩) (by assumption) ?_
  rotate_left
  · (intro w hSw; (try dsimp only at hSw); go_simp; (try with_reducible rfl))
  try simp only [List.getElem_toArray, List.getElem_cons_succ, List.getElem_cons_zero, Act.put, List.setIfInBounds_toArray, List.set_cons_zero, List.set_cons_succ]
  refine wpAnyH_take (i := 18) (v := ?_) rfl (by kernel_rfl) (by kernel_rfl) (by kernel_rfl) (fun _ _ _ h => h) (Or.inl ⟨by rfl, ?_⟩) (by assumption) ?_
  rotate_left
  · (intro w hSw; (try dsimp only at hSw); go_simp; (try with_reducible rfl))
  try simp only [List.getElem_toArray, List.getElem_cons_succ, List.getElem_cons_zero, Act.put, List.setIfInBounds_toArray, List.set_cons_zero, List.set_cons_succ]
  refine wpAnyH_done (by kernel_rfl) ?_ _
  clear hq0 hq1 hq2 w1' w2' w3' w4' w5' w6'
  go_upto_region 5 with fail
  have S2 := Lib.hid S1.out.drew
  have hc2 : w0.drew.drew.cell? ⟨b, off, none⟩ = some (.int .i64 h) := hc0
  clear S1 hc0
  generalize w0.drew = w2 at S2 hc2 ⊢
  refine wp_region_held_drew (S := fun w' => w'.cell? ⟨b, off, none⟩ = some (.int .i64 h) ∧ w'.cell? ⟨w.heap.size, 0, none⟩ = some (.int .i64 u0) ∧ w'.cell? ⟨w.heap.size, 1, none⟩ = some (.int .i64 u1) ∧ w'.cell? ⟨w.heap.size, 2, none⟩ = some (.int .i64 u2) ∧ w'.cell? ⟨w.heap.size, 3, none⟩ = some (.int .i64 u3) ∧ w'.cell? ⟨w.heap.size, 4, none⟩ = some (.int .i64 u4)) (by kernel_rfl) (⟨hc2, OpenSt.cells S2.out⟩) (fun hHeld => ?_)
  refine wpAnyH_take (i := 0) (v := ?_) rfl (by kernel_rfl) (by kernel_rfl) (by kernel_rfl) (fun _ _ _ h => h) (Or.inl ⟨by rfl, ?_⟩) (by assumption) ?_
  rotate_left
  · (intro w hSw; (try dsimp only at hSw); go_simp; (try with_reducible rfl))
  try simp only [List.getElem_toArray, List.getElem_cons_succ, List.getElem_cons_zero, Act.put, List.setIfInBounds_toArray, List.set_cons_zero, List.set_cons_succ]
  refine wpAnyH_take (i := 1) (v := ?_) rfl (by kernel_rfl) (by kernel_rfl) (by kernel_rfl) (fun _ _ _ h => h) (Or.inl ⟨by rfl, ?_⟩) (by assumption) ?_
  rotate_left
  · (intro w hSw; (try dsimp only at hSw); go_simp; (try with_reducible rfl))
  try simp only [List.getElem_toArray, List.getElem_cons_succ, List.getElem_cons_zero, Act.put, List.setIfInBounds_toArray, List.set_cons_zero, List.set_cons_succ]
  refine wpAnyH_take (i := 2) (v := ?_) rfl (by kernel_rfl) (by kernel_rfl) (by kernel_rfl) (fun _ _ _ h => h) (Or.inl ⟨by rfl, ?_⟩) (by assumption) ?_
  rotate_left
  · (intro w hSw; (try dsimp only at hSw); go_simp; (try with_reducible rfl))
  try simp only [List.getElem_toArray, List.getElem_cons_succ, List.getElem_cons_zero, Act.put, List.setIfInBounds_toArray, List.set_cons_zero, List.set_cons_succ]
  refine wpAnyH_take (i := 3) (v := ?_) rfl (by kernel_rfl) (by kernel_rfl) (by kernel_rfl) (fun _ _ _ h => h) (Or.inl ⟨by rfl, ?_⟩) (by assumption) ?_
  rotate_left
  · (intro w hSw; (try dsimp only at hSw); go_simp; (try with_reducible rfl))
  try simp only [List.getElem_toArray, List.getElem_cons_succ, List.getElem_cons_zero, Act.put, List.setIfInBounds_toArray, List.set_cons_zero, List.set_cons_succ]
  refine wpAnyH_take (i := 4) (v := ?_) rfl (by kernel_rfl) (by kernel_rfl) (by kernel_rfl) (fun _ _ _ h => h) (Or.inl ⟨by rfl, ?_⟩) (by assumption) ?_
  rotate_left
  · (intro w hSw; (try dsimp only at hSw); go_simp; (try with_reducible rfl))
  try simp only [List.getElem_toArray, List.getElem_cons_succ, List.getElem_cons_zero, Act.put, List.setIfInBounds_toArray, List.set_cons_zero, List.set_cons_succ]
  refine wpAnyH_take (i := 5) (v := ?_) rfl (by kernel_rfl) (by kernel_rfl) (by kernel_rfl) (fun _ _ _ h => h) (Or.inl ⟨by rfl, ?_⟩) (by assumption) ?_
  rotate_left
  · (intro w hSw; (try dsimp only at hSw); go_simp; (try with_reducible rfl))
  try simp only [List.getElem_toArray, List.getElem_cons_succ, List.getElem_cons_zero, Act.put, List.setIfInBounds_toArray, List.set_cons_zero, List.set_cons_succ]
  refine wpAnyH_take (i := 6) (v := ?_) rfl (by kernel_rfl) (by kernel_rfl) (by kernel_rfl) (fun _ _ _ h => h) (Or.inl ⟨by rfl, ?_⟩) (by assumption) ?_
  rotate_left
  · (intro w hSw; (try dsimp only at hSw); go_simp; (try with_reducible rfl))
  try simp only [List.getElem_toArray, List.getElem_cons_succ, List.getElem_cons_zero, Act.put, List.setIfInBounds_toArray, List.set_cons_zero, List.set_cons_succ]
  refine wpAnyH_take (i := 7) (v := ?_) rfl (by kernel_rfl) (by kernel_rfl) (by kernel_rfl) (fun _ _ _ h => h) (Or.inl ⟨by rfl, ?_⟩) (by assumption) ?_
  rotate_left
  · (intro w hSw; (try dsimp only at hSw); go_simp; (try with_reducible rfl))
  try simp only [List.getElem_toArray, List.getElem_cons_succ, List.getElem_cons_zero, Act.put, List.setIfInBounds_toArray, List.set_cons_zero, List.set_cons_succ]
  refine wpAnyH_take (i := 8) (v := ?_) rfl (by kernel_rfl) (by kernel_rfl) (by kernel_rfl) (fun _ _ _ h => h) (Or.inl ⟨by rfl, ?_⟩) (by assumption) ?_
  rotate_left
  · (intro w hSw; (try dsimp only at hSw); go_simp; (try with_reducible rfl))
  try simp only [List.getElem_toArray, List.getElem_cons_succ, List.getElem_cons_zero, Act.put, List.setIfInBounds_toArray, List.set_cons_zero, List.set_cons_succ]
  refine wpAnyH_take (i := 10) (v := ?_) rfl (by kernel_rfl) (by kernel_rfl) (by kernel_rfl) (fun _ _ _ h => h) (Or.inl ⟨by rfl, ?_⟩) (by assumption) ?_
  rotate_left
  · (intro w hSw; (try dsimp only at hSw); go_simp; (try with_reducible rfl))
  try simp only [List.getElem_toArray, List.getElem_cons_succ, List.getElem_cons_zero, Act.put, List.setIfInBounds_toArray, List.set_cons_zero, List.set_cons_succ]
  refine wpAnyH_ready (rs := [9]) (by kernel_rfl) (by simp) (AllReadyH.cons rfl (fun K hK => ?_) AllReadyH.nil)
  go_simp
  refine (l07Number_any _ _ _ _ _ _ _ _ _ ys _ HID.out (R1.out.below S2.out.below) (by omega)).mono ?_
  rintro e w3 ⟨rfl, b3⟩
  rw [HX.out]
  have S3 := Lib.hid (S2.out.call b3)
  have hc3 := (b3.cell (p := ⟨b, off, none⟩) (World.block_lt_of_cell? _ _ hc2)).trans hc2
  clear b3
  go_wp2_with fail
  refine hK.out _ _ ?_ (fun hHeld => ?_)
  · exact ⟨hc3, OpenSt.cells S3.out⟩
  clear hK K
  try simp only [List.getElem_toArray, List.getElem_cons_succ, List.getElem_cons_zero, Act.put, List.setIfInBounds_toArray, List.set_cons_zero, List.set_cons_succ]
  have hxd := HD.out
  refine wpAnyH_take (i := 11) (v := ?_) rfl (by kernel_rfl) (by kernel_rfl) (by kernel_rfl) (fun _ _ _ h => h) (Or.inl ⟨by rfl, ?_⟩) (by assumption) ?_
  rotate_left
  · (intro w hSw; (try dsimp only at hSw); go_simp; (try with_reducible rfl))
  try simp only [List.getElem_toArray, List.getElem_cons_succ, List.getElem_cons_zero, Act.put, List.setIfInBounds_toArray, List.set_cons_zero, List.set_cons_succ]
  refine wpAnyH_done (by kernel_rfl) ?_ _
  clear S2 hc2 hc3 hd1
  go_wp2_with fail
  clear hxd
  refine (HFF.out _ _ (R1.out.below S3.out.below) (by omega) (by omega)).mono ?_
  rintro e w8 ⟨p8, c8, rfl, o8, b8⟩
  simp only at o8 ⊢
  have hsz := S3.out.size
  have S8 := Lib.hid (S3.out.call b8)
  have O8 := Lib.hid (o8.more (base' := w.heap.size + 2) hsz)
  have hd8 := Below.alloc (Below.refl w8.heap.size w8) (Nat.le_refl _) (.cells #[.int .i64 a, .int .i64 q, .int .i64 u0, .int .i64 u1, .int .i64 u2, .int .i64 u3, .int .i64 u4, .slice p8 d.length c8] 28)
  have X8 := Lib.hid (FrameAt.new (T := 28) (a := a) (q := q) (t := u0) (m := u1) (r := u2) (s := u3) (k := u4) (v := .slice p8 d.length c8) w8)
  have S9 := Lib.hid (S8.out.call hd8)
  have O9 := Lib.hid (O8.out.below hd8)
  clear o8 b8 hsz hd8 S3 S8 O8
  go_upto_region 10 with fail
  obtain ⟨J, hJ⟩ : ∃ J, J = w8.heap.size := ⟨_, rfl⟩
  rw [← hJ] at X8 ⊢
  clear hJ
  generalize w8.alloc (.cells #[.int .i64 a, .int .i64 q, .int .i64 u0, .int .i64 u1, .int .i64 u2, .int .i64 u3, .int .i64 u4, .slice p8 d.length c8] 28) = w9 at S9 O9 X8 ⊢
  have x0 := X8.out.c0
  go_wp2_with fail
  clear x0
  refine (l06State_any _ _).mono ?_
  rintro e w10 ⟨rfl, rfl⟩
  rw [HST.out]
  have rc0 := S9.out.res.c0
  have rf0 := S9.out.res.f 0
  have rc1 := S9.out.res.c1
  have rf1 := S9.out.res.f 1
  have rc2 := S9.out.res.c2
  have rf2 := S9.out.res.f 2
  have rc3 := S9.out.res.c3
  have rf3 := S9.out.res.f 3
  have rc4 := S9.out.res.c4
  have rf4 := S9.out.res.f 4
  have rc5 := S9.out.res.c5
  have rf5 := S9.out.res.f 5
  have rc6 := S9.out.res.c6
  have rf6 := S9.out.res.f 6
  have rc7 := S9.out.res.c7
  have rf7 := S9.out.res.f 7
  obtain ⟨x0, x1, x2, x3, x4, x5, x6, x7⟩ := frame_cells X8.out
  obtain ⟨d0, d1, d2, d3, d4⟩ := S9.out.cells
  go_wp2_with fail
  clear x0 x1 x2 x3 x4 x5 x6 x7 d0 d1 d2 d3 d4 rc0 rf0 rc1 rf1 rc2 rf2 rc3 rf3 rc4 rf4 rc5 rf5 rc6 rf6 rc7 rf7
  change bodyPost _ _ _ _ _ (setEight w9 (w.heap.size + 1) a q u0 u1 u2 u3 u4 (.slice p8 d.length c8))
  obtain ⟨SF, BF⟩ := S9.out.fin a q u0 u1 u2 u3 u4 (.slice p8 d.length c8)
  have OF := (O9.out.awayEight (b := w.heap.size + 1) (Nat.lt_succ_self _) a q u0 u1 u2 u3 u4 (.slice p8 d.length c8)).more (base' := w.heap.size) (by omega)
  generalize setEight w9 (w.heap.size + 1) a q u0 u1 u2 u3 u4 (.slice p8 d.length c8) = wz at SF BF OF ⊢
  have e0 := SF.c0
  have e1 := SF.c1
  have e2 := SF.c2
  have e3 := SF.c3
  have e4 := SF.c4
  have e5 := SF.c5
  have e6 := SF.c6
  have e7 := SF.c7
  exact bodyPost_ret (v := .tuple #[.agg #[.int .i64 a, .int .i64 q, .int .i64 u0, .int .i64 u1, .int .i64 u2, .int .i64 u3, .int .i64 u4, .slice p8 d.length c8], .int .i64 0]) (by simp [results, Try.results93, go_sem, e0, e1, e2, e3, e4, e5, e6, e7]) rfl ⟨_, _, rfl, OF, BF⟩
end Go.Proofs.Ytbdfnkhmnglpbaa
