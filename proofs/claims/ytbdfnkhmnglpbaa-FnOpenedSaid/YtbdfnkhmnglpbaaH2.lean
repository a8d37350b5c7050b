/-
  Chapter 7: the check number of a body, by the program's seal and by the model.
-/
import Derived.Test.YtbdfnkhmnglpbaaH1
import Derived.Test.YtbdfnkhmnglpbaaSixD
namespace Go.Proofs.Ytbdfnkhmnglpbaa
open Go.RowKit

theorem sealNum_state {a id t m r s k : Int} {xs : List Int} (ha : a = 0) : sealNum a id t m r s k xs = regOf stdG (fbs stdG (regS id) (bl (stateBits t m r s k))) (bitsOf8 xs) := by
  unfold sealNum fedFirst regOf
  rw [if_pos ha, bl_append, fbs_append]
theorem sealNum_none {a id t m r s k : Int} {xs : List Int} (ha : a ≠ 0) : sealNum a id t m r s k xs = regOf stdG (regS id) (bitsOf8 xs) := by
  unfold sealNum fedFirst
  rw [if_neg ha, List.nil_append]
theorem seal_new {T : Nat} {w w' : World} {p : Value} {id t m r s k : Int} (h : Below (w.alloc (.cells #[p, .int .i64 id, .int .i64 t, .int .i64 m, .int .i64 r, .int .i64 s, .int .i64 k] T)).heap.size (w.alloc (.cells #[p, .int .i64 id, .int .i64 t, .int .i64 m, .int .i64 r, .int .i64 s, .int .i64 k] T)) w') : SealAt T w' w.heap.size p id t m r s k :=
  (SealAt.new w).below h (by simp)
theorem seal_cells {T b : Nat} {w : World} {p : Value} {id t m r s k : Int} (h : SealAt T w b p id t m r s k) : w.cell? ⟨b, 0, none⟩ = some p ∧ w.cell? ⟨b, 1, none⟩ = some (.int .i64 id) ∧ w.cell? ⟨b, 2, none⟩ = some (.int .i64 t) ∧ w.cell? ⟨b, 3, none⟩ = some (.int .i64 m) ∧ w.cell? ⟨b, 4, none⟩ = some (.int .i64 r) ∧ w.cell? ⟨b, 5, none⟩ = some (.int .i64 s) ∧ w.cell? ⟨b, 6, none⟩ = some (.int .i64 k) := ⟨h.c0, h.c1, h.c2, h.c3, h.c4, h.c5, h.c6⟩
theorem CycTo.below {W p n B : Nat} {g : BitVec W} {w w' : World} (h : CycTo g w p n) (hb : Below B w w') (hlt : p < B) : CycTo g w' p n := (hb.block p hlt).trans h
/-- The cyclic code of a seal, fed with the bits of a state. -/
theorem feedState_any (p : Nat) (y : BitVec 24) (ao : Option Addr) (n cap : Nat) (xs : List Int) (id : Int) (w : World) (hid : (y.toNat : Int) = id) (hc : CycTo stdG w p 256) (hr : Rd w ao n xs) (hn : n ≤ 1048576) (hb : ∀ x ∈ xs, 0 ≤ x ∧ x ≤ 1) :
    Calls Try.prog 121 #[.pointer (some ⟨p, 0, none⟩), .int .i64 id, .slice ao n cap] w fun e w' => e = .returned (.int .i64 (regOf stdG y xs)) ∧ w = w' := by
  subst hid
  exact afterBits_any p 24 stdG y ao n cap xs w (by omega) (by omega) hc.code hr hn hb
theorem feedBody_any (p : Nat) (y : BitVec 24) (ao : Option Addr) (n cap : Nat) (xs : List Int) (id : Int) (w : World) (hid : (y.toNat : Int) = id) (hc : CycTo stdG w p 256) (hr : Rd w ao n xs) (hn : n ≤ 1048576) (hb : ∀ x ∈ xs, 0 ≤ x ∧ x ≤ 255) :
    Calls Try.prog 123 #[.pointer (some ⟨p, 0, none⟩), .int .i64 id, .slice ao n cap] w (ReadsInt w (regOf stdG y (bitsOf8 xs))) := by
  subst hid
  exact afterBytes_any p 24 stdG y ao n cap xs w (by omega) (by omega) hc hr hn hb
set_option linter.unusedSimpArgs false in
set_option maxHeartbeats 1000000 in
set_option maxRecDepth 100000 in
theorem check_any (p : Nat) (id t m r s k a : Int) (ao : Option Addr) (n cap : Nat) (xs : List Int) (w : World) (hid : 0 ≤ id ∧ id ≤ 16777215) (hc : CycTo stdG w p 256) (hr : Rd w ao n xs) (hn : n ≤ 1048576) (hb : ∀ x ∈ xs, 0 ≤ x ∧ x ≤ 255) :
    Calls Try.prog 81 #[.agg #[.pointer (some ⟨p, 0, none⟩), .int .i64 id, .int .i64 t, .int .i64 m, .int .i64 r, .int .i64 s, .int .i64 k], .int .i64 a, .slice ao n cap] w (ReadsInt w (sealNum a id t m r s k xs)) := by
  have hb0 : Below w.heap.size w (w.alloc (.cells #[.pointer (some ⟨p, 0, none⟩), .int .i64 id, .int .i64 t, .int .i64 m, .int .i64 r, .int .i64 s, .int .i64 k] 97)) := (Below.refl _ _).alloc (Nat.le_refl _) _
  have S0 := Lib.hid (SealAt.new (T := 97) (p := .pointer (some ⟨p, 0, none⟩)) (id := id) (t := t) (m := m) (r := r) (s := s) (k := k) w)
  have hpl : p < w.heap.size := (Array.getElem?_eq_some_iff.1 hc).1
  have HC := Lib.hid (hc.below hb0 hpl)
  have HR := Lib.hid (hr.below hb0)
  have HB := Lib.hid hb0; have HZ := Lib.hid hb
  have hreg := reg_id hid
  clear hb0 hc hr hb
  by_cases ha : a = 0
  · rw [sealNum_state ha]
    subst ha
    have hbits := stateBits_bits t m r s k
    have hlen := stateBits_len t m r s k
    have hst := fun w => bitsOfState_any t m r s k w
    generalize stateBits t m r s k = bs at hbits hlen hst ⊢
    have HBI := Lib.hid hbits; have HL := Lib.hid hlen; have HST := Lib.hid hst; clear hbits hlen hst
    have HREG := Lib.hid hreg; clear hreg
    obtain ⟨y, hy⟩ : ∃ y, fbs stdG (regS id) (bl bs) = y := ⟨_, rfl⟩
    have hy2 : regOf stdG (regS id) bs = (y.toNat : Int) := by unfold regOf; rw [hy]
    rw [hy]
    have HY := Lib.hid hy2; clear hy hy2
    go_enter Try.func81, Try.ntmps81
    go_upto_region 3 with fail
    generalize w.alloc (.cells #[.pointer (some ⟨p, 0, none⟩), .int .i64 id, .int .i64 t, .int .i64 m, .int .i64 r, .int .i64 s, .int .i64 k] 97) = w0 at S0 HC HR HB ⊢
    have S1 := Lib.hid (S0.out.below (Below.drew (Below.refl w0.heap.size w0)) S0.out.lt)
    have C1 := Lib.hid (HC.out.below (Below.drew (Below.refl w0.heap.size w0)) (by have h := (Array.getElem?_eq_some_iff.1 HC.out).1; exact h))
    have R1 := Lib.hid (HR.out.below (Below.drew (Below.refl w0.heap.size w0)))
    have B1 := Lib.hid HB.out.drew
    refine wp_region_held_drew (S := fun w' => w'.cell? ⟨w.heap.size, 0, none⟩ = some (.pointer (some ⟨p, 0, none⟩)) ∧ w'.cell? ⟨w.heap.size, 1, none⟩ = some (.int .i64 id) ∧ w'.cell? ⟨w.heap.size, 2, none⟩ = some (.int .i64 t) ∧ w'.cell? ⟨w.heap.size, 3, none⟩ = some (.int .i64 m) ∧ w'.cell? ⟨w.heap.size, 4, none⟩ = some (.int .i64 r) ∧ w'.cell? ⟨w.heap.size, 5, none⟩ = some (.int .i64 s) ∧ w'.cell? ⟨w.heap.size, 6, none⟩ = some (.int .i64 k)) (by kernel_rfl) (seal_cells S1.out) (fun hHeld => ?_)
    refine wpAnyH_take (i := 0) (v := ?_) rfl (by kernel_rfl) (by kernel_rfl) (by kernel_rfl) (fun _ _ _ h => h) (Or.inl ⟨by rfl, ?_⟩) (by assumption) ?_
    rotate_left
    · (intro w hSw; (try dsimp only at hSw); go_simp; (try with_reducible rfl))
    try simp only [List.getElem_toArray, List.getElem_cons_succ, List.getElem_cons_zero, Act.put, List.setIfInBounds_toArray, List.set_cons_zero, List.set_cons_succ]
    refine wpAnyH_take (i := 1) (v := ?_) rfl (by kernel_rfl) (by kernel_rfl) (by kernel_rfl) (fun _ _ _ h => h) (Or.inl ⟨by rfl, ?_⟩) (by assumption) ?_
    rotate_left
    · (intro w hSw; (try dsimp only at hSw); go_simp; (try with_reducible rfl))
    try simp only [List.getElem_toArray, List.getElem_cons_succ, List.getElem_cons_zero, Act.put, List.setIfInBounds_toArray, List.set_cons_zero, List.set_cons_succ]
    refine wpAnyH_take (i := 2) (v := ?_) rfl (by kernel_rfl) (by kernel_rfl) (by kernel_rfl) (fun _ _ _ h => h) (Or.inl ⟨by rfl, ?_⟩) (by assumption) ?_
    rotate_left
    · (intro w hSw; (try dsimp only at hSw); go_simp; (try with_reducible rfl))
    try simp only [List.getElem_toArray, List.getElem_cons_succ, List.getElem_cons_zero, Act.put, List.setIfInBounds_toArray, List.set_cons_zero, List.set_cons_succ]
    refine wpAnyH_take (i := 3) (v := ?_) rfl (by kernel_rfl) (by kernel_rfl) (by kernel_rfl) (fun _ _ _ h => h) (Or.inl ⟨by rfl, ?_⟩) (by assumption) ?_
    rotate_left
    · (intro w hSw; (try dsimp only at hSw); go_simp; (try with_reducible rfl))
    try simp only [List.getElem_toArray, List.getElem_cons_succ, List.getElem_cons_zero, Act.put, List.setIfInBounds_toArray, List.set_cons_zero, List.set_cons_succ]
    refine wpAnyH_take (i := 4) (v := ?_) rfl (by kernel_rfl) (by kernel_rfl) (by kernel_rfl) (fun _ _ _ h => h) (Or.inl ⟨by rfl, ?_⟩) (by assumption) ?_
    rotate_left
    · (intro w hSw; (try dsimp only at hSw); go_simp; (try with_reducible rfl))
    try simp only [List.getElem_toArray, List.getElem_cons_succ, List.getElem_cons_zero, Act.put, List.setIfInBounds_toArray, List.set_cons_zero, List.set_cons_succ]
    refine wpAnyH_ready (rs := [5]) (by kernel_rfl) (by simp) (AllReadyH.cons rfl (fun K hK => ?_) AllReadyH.nil)
    go_simp
    refine (HST.out _).mono ?_
    rintro e w2 m2
    obtain ⟨p2, c2, rfl, -, r2, b2⟩ := m2.get
    have S2 := Lib.hid (S1.out.below b2 S1.out.lt)
    have hpl2 := (Array.getElem?_eq_some_iff.1 C1.out).1
    have C2 := Lib.hid (C1.out.below b2 hpl2)
    have R2 := Lib.hid (R1.out.below b2)
    have B2 := Lib.hid (below_two B1.out b2)
    have Q2 := Lib.hid r2
    clear m2 b2 r2 hpl2
    go_wp2_with fail
    refine hK.out _ _ ?_ (fun hHeld => ?_)
    · exact seal_cells S2.out
    clear hK K
    try simp only [List.getElem_toArray, List.getElem_cons_succ, List.getElem_cons_zero, Act.put, List.setIfInBounds_toArray, List.set_cons_zero, List.set_cons_succ]
    refine wpAnyH_ready (rs := [6]) (by kernel_rfl) (by simp) (AllReadyH.cons rfl (fun K hK => ?_) AllReadyH.nil)
    go_simp
    refine (feedState_any p (regS id) _ _ _ bs id _ HREG.out C2.out Q2.out (by have := HL.out; omega) HBI.out).mono ?_
    rintro e w3 ⟨rfl, rfl⟩
    rw [HY.out]
    go_wp2_with fail
    refine hK.out _ _ ?_ (fun hHeld => ?_)
    · exact seal_cells S2.out
    clear hK K
    try simp only [List.getElem_toArray, List.getElem_cons_succ, List.getElem_cons_zero, Act.put, List.setIfInBounds_toArray, List.set_cons_zero, List.set_cons_succ]
    refine wpAnyH_take (i := 7) (v := ?_) rfl (by kernel_rfl) (by kernel_rfl) (by kernel_rfl) (fun _ _ _ h => h) (Or.inl ⟨by rfl, ?_⟩) (by assumption) ?_
    rotate_left
    · (intro w hSw; (try dsimp only at hSw); go_simp; (try with_reducible rfl))
    try simp only [List.getElem_toArray, List.getElem_cons_succ, List.getElem_cons_zero, Act.put, List.setIfInBounds_toArray, List.set_cons_zero, List.set_cons_succ]
    refine wpAnyH_done (by kernel_rfl) ?_ _
    have c0 := S2.out.c0
    go_wp2_with fail
    clear c0
    refine (feedBody_any p y _ _ _ xs _ _ rfl C2.out R2.out hn HZ.out).mono ?_
    rintro e w4 ⟨rfl, b4⟩
    go_wp2
    go_ret
    exact ⟨rfl, below_two B2.out b4⟩
  · rw [sealNum_none ha]
    have t0 : (a == 0) = false := by simp [ha]
    clear ha
    go_enter Try.func81, Try.ntmps81
    have c0 := S0.out.c0
    go_wp2_with fail
    clear c0
    refine (feedBody_any p (regS id) _ _ _ xs id _ hreg HC.out HR.out hn HZ.out).mono ?_
    rintro e w4 ⟨rfl, b4⟩
    go_wp2
    go_ret
    exact ⟨rfl, below_two HB.out b4⟩
set_option linter.unusedSimpArgs false in
set_option maxHeartbeats 1000000 in
set_option maxRecDepth 100000 in
theorem l07Number_any (a id t m r s k : Int) (ao : Option Addr) (cap : Nat) (xs : List Int) (w : World) (hid : 0 ≤ id ∧ id ≤ 16777215) (hr : Rd w ao xs.length xs) (hn : xs.length ≤ 1024) :
    Calls Try.prog 82 #[.int .i64 a, .slice ao xs.length cap, .int .i64 id, .agg #[.int .i64 t, .int .i64 m, .int .i64 r, .int .i64 s, .int .i64 k]] w (ReadsInt w (sealNum a id t m r s k xs)) := by
  have hb0 : Below w.heap.size w (w.alloc (.cells #[.int .i64 t, .int .i64 m, .int .i64 r, .int .i64 s, .int .i64 k] 25)) := (Below.refl _ _).alloc (Nat.le_refl _) _
  have S0 := Lib.hid (StateAt.new (T := 25) (t := t) (m := m) (r := r) (s := s) (k := k) w)
  have HR := Lib.hid (hr.below hb0)
  have HB := Lib.hid hb0
  have hreg := reg_id hid
  have h8 := bits8_len xs
  have HB8 := Lib.hid (bits8_in xs)
  clear hb0 hr
  have hbt := fun W h => l01Bits_any ao cap xs W h (by omega)
  by_cases ha : a = 0
  · rw [sealNum_state ha]
    subst ha
    have hbits := stateBits_bits t m r s k
    have hlen := stateBits_len t m r s k
    have hst := fun w => l04Bits_any t m r s k w
    generalize stateBits t m r s k = bs at hbits hlen hst ⊢
    have HBI := Lib.hid hbits; have HL := Lib.hid hlen; have HST := Lib.hid hst; clear hbits hlen hst
    have HREG := Lib.hid hreg; clear hreg
    obtain ⟨y, hy⟩ : ∃ y, fbs stdG (regS id) (bl bs) = y := ⟨_, rfl⟩
    have hy2 : regOf stdG (regS id) bs = (y.toNat : Int) := by unfold regOf; rw [hy]
    rw [hy]
    have HY := Lib.hid hy2; clear hy hy2
    change ∀ W, _ → Calls _ _ _ _ (Makes 2 W (bitsOf8 xs)) at hbt
    generalize bitsOf8 xs = b8 at h8 HB8 hbt ⊢
    have HBT := Lib.hid hbt; have H8 := Lib.hid h8; clear hbt h8
    go_enter Try.func82, Try.ntmps82
    go_upto_region 3 with fail
    generalize w.alloc (.cells #[.int .i64 t, .int .i64 m, .int .i64 r, .int .i64 s, .int .i64 k] 25) = w0 at S0 HR HB ⊢
    have S1 := Lib.hid (S0.out.below (Below.drew (Below.refl w0.heap.size w0)) S0.out.lt)
    have R1 := Lib.hid (HR.out.below (Below.drew (Below.refl w0.heap.size w0)))
    have B1 := Lib.hid HB.out.drew
    refine wp_region_held_drew (S := fun w' => w'.cell? ⟨w.heap.size, 0, none⟩ = some (.int .i64 t) ∧ w'.cell? ⟨w.heap.size, 1, none⟩ = some (.int .i64 m) ∧ w'.cell? ⟨w.heap.size, 2, none⟩ = some (.int .i64 r) ∧ w'.cell? ⟨w.heap.size, 3, none⟩ = some (.int .i64 s) ∧ w'.cell? ⟨w.heap.size, 4, none⟩ = some (.int .i64 k)) (by kernel_rfl) (state_cells S1.out) (fun hHeld => ?_)
    refine wpAnyH_take (i := 1) (v := ?_) rfl (by kernel_rfl) (by kernel_rfl) (by kernel_rfl) (fun _ _ _ h => h) (Or.inl ⟨by rfl, ?_⟩) (by assumption) ?_
    rotate_left
    · (intro w hSw; (try dsimp only at hSw); go_simp; (try with_reducible rfl))
    try simp only [List.getElem_toArray, List.getElem_cons_succ, List.getElem_cons_zero, Act.put, List.setIfInBounds_toArray, List.set_cons_zero, List.set_cons_succ]
    refine wpAnyH_take (i := 2) (v := ?_) rfl (by kernel_rfl) (by kernel_rfl) (by kernel_rfl) (fun _ _ _ h => h) (Or.inl ⟨by rfl, ?_⟩) (by assumption) ?_
    rotate_left
    · (intro w hSw; (try dsimp only at hSw); go_simp; (try with_reducible rfl))
    try simp only [List.getElem_toArray, List.getElem_cons_succ, List.getElem_cons_zero, Act.put, List.setIfInBounds_toArray, List.set_cons_zero, List.set_cons_succ]
    refine wpAnyH_ready (rs := [0]) (by kernel_rfl) (by simp) (AllReadyH.cons rfl (fun K hK => ?_) AllReadyH.nil)
    go_simp
    refine (sStandardCrc_any _).mono ?_
    rintro e w2 ⟨rfl, b2⟩
    have S2 := Lib.hid (S1.out.below b2 S1.out.lt)
    have R2 := Lib.hid (R1.out.below b2)
    have B2 := Lib.hid (below_two B1.out b2)
    clear b2
    go_wp2_with fail
    refine hK.out _ _ ?_ (fun hHeld => ?_)
    · exact state_cells S2.out
    clear hK K
    try simp only [List.getElem_toArray, List.getElem_cons_succ, List.getElem_cons_zero, Act.put, List.setIfInBounds_toArray, List.set_cons_zero, List.set_cons_succ]
    refine wpAnyH_ready (rs := [3]) (by kernel_rfl) (by simp) (AllReadyH.cons rfl (fun K hK => ?_) AllReadyH.nil)
    go_simp
    refine (HST.out _).mono ?_
    rintro e w3 m3
    obtain ⟨p3, c3, rfl, -, r3, b3⟩ := m3.get
    have S3 := Lib.hid (S2.out.below b3 S2.out.lt)
    have R3 := Lib.hid (R2.out.below b3)
    have B3 := Lib.hid (below_two B2.out b3)
    have Q3 := Lib.hid r3
    clear m3 b3 r3
    go_wp2_with fail
    refine hK.out _ _ ?_ (fun hHeld => ?_)
    · exact state_cells S3.out
    clear hK K
    try simp only [List.getElem_toArray, List.getElem_cons_succ, List.getElem_cons_zero, Act.put, List.setIfInBounds_toArray, List.set_cons_zero, List.set_cons_succ]
    refine wpAnyH_ready (rs := [4]) (by kernel_rfl) (by simp) (AllReadyH.cons rfl (fun K hK => ?_) AllReadyH.nil)
    go_simp
    refine (feedStd_any (regS id) _ _ _ bs id _ HREG.out Q3.out (by have := HL.out; omega) HBI.out).mono ?_
    rintro e w4 ⟨rfl, b4⟩
    rw [HY.out]
    have S4 := Lib.hid (S3.out.below b4 S3.out.lt)
    have R4 := Lib.hid (R3.out.below b4)
    have B4 := Lib.hid (below_two B3.out b4)
    clear b4
    go_wp2_with fail
    refine hK.out _ _ ?_ (fun hHeld => ?_)
    · exact state_cells S4.out
    clear hK K
    try simp only [List.getElem_toArray, List.getElem_cons_succ, List.getElem_cons_zero, Act.put, List.setIfInBounds_toArray, List.set_cons_zero, List.set_cons_succ]
    refine wpAnyH_take (i := 5) (v := ?_) rfl (by kernel_rfl) (by kernel_rfl) (by kernel_rfl) (fun _ _ _ h => h) (Or.inl ⟨by rfl, ?_⟩) (by assumption) ?_
    rotate_left
    · (intro w hSw; (try dsimp only at hSw); go_simp; (try with_reducible rfl))
    try simp only [List.getElem_toArray, List.getElem_cons_succ, List.getElem_cons_zero, Act.put, List.setIfInBounds_toArray, List.set_cons_zero, List.set_cons_succ]
    refine wpAnyH_done (by kernel_rfl) ?_ _
    go_wp2_with fail
    refine (sStandardCrc_any _).mono ?_
    rintro e w5 ⟨rfl, b5⟩
    go_wp2_with fail
    refine (HBT.out _ (R4.out.below b5)).mono ?_
    rintro e w6 m6
    obtain ⟨p6, c6, rfl, -, r6, b6⟩ := m6.get
    go_wp2_with fail
    refine (feedStd_any y _ _ _ b8 _ _ rfl r6 (by have := H8.out; omega) HB8.out).mono ?_
    rintro e w7 ⟨rfl, b7⟩
    go_wp2
    go_ret
    exact ⟨rfl, below_two (below_two (below_two B4.out b5) b6) b7⟩
  · rw [sealNum_none ha]
    have t0 : (a == 0) = false := by simp [ha]
    clear ha
    change ∀ W, _ → Calls _ _ _ _ (Makes 2 W (bitsOf8 xs)) at hbt
    generalize bitsOf8 xs = b8 at h8 HB8 hbt ⊢
    have HBT := Lib.hid hbt; have H8 := Lib.hid h8; clear hbt h8
    go_enter Try.func82, Try.ntmps82
    go_wp2_with fail
    refine (sStandardCrc_any _).mono ?_
    rintro e w5 ⟨rfl, b5⟩
    go_wp2_with fail
    refine (HBT.out _ (HR.out.below b5)).mono ?_
    rintro e w6 m6
    obtain ⟨p6, c6, rfl, -, r6, b6⟩ := m6.get
    go_wp2_with fail
    refine (feedStd_any (regS id) _ _ _ b8 _ _ hreg r6 (by have := H8.out; omega) HB8.out).mono ?_
    rintro e w7 ⟨rfl, b7⟩
    go_wp2
    go_ret
    exact ⟨rfl, below_two (below_two (below_two HB.out b5) b6) b7⟩
end Go.Proofs.Ytbdfnkhmnglpbaa
