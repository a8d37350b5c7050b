/-
  Chapter 4: StateFromBits on both sides.
-/
import Derived.Test.YtkidhilipeoliaaDoorC4c
import Derived.Test.YtkidhilipeoliaaDoorOne
import Derived.Test.YtkidhilipeoliaaDoorOneB
import Derived.Deep.DeepCutAuto
namespace Go.Proofs.YtkidhilipeoliaaDoor
open Go.RowKit

theorem Rd.rest {w : World} {ao : Option Addr} {n : Nat} {xs : List Int} (h : Rd w ao n xs) {a : Nat} (ha : a ≤ n) : Rd w (Option.map (fun x => x.add a) ao) (n - a) (xs.drop a) := by
  have h1 := h.slice (a := a) (k := n - a) (by omega)
  rwa [List.take_of_length_le (by rw [List.length_drop, h.len]; exact Nat.le_refl _)] at h1
theorem Rd.first {w : World} {ao : Option Addr} {n : Nat} {xs : List Int} (h : Rd w ao n xs) {a : Nat} (ha : a ≤ n) : Rd w ao a (xs.take a) := by
  have hl := h.len
  refine ⟨by rw [List.length_take]; omega, fun h0 => ?_⟩
  obtain ⟨b, off, rfl, hc⟩ := h.here (by omega)
  exact ⟨b, off, rfl, fun i hi => by rw [hc i (by omega)]; simp [List.getD, hi]⟩
theorem takeNumber_any (ao : Option Addr) (n cap : Nat) (xs : List Int) (wd : Nat) (W : Int) (w : World) (hW : (wd : Int) = W) (hr : Rd w ao n xs) (hcap : n ≤ cap) (_hcap2 : cap ≤ 9223372036854775807) (hlt : wd < n) (hw : wd ≤ 40) (hbits : ∀ x ∈ xs, 0 ≤ x ∧ x ≤ 1) :
    Calls Tryd.prog 26 #[.slice ao n cap, .int .i64 W] w fun e w' => e = .returned (.tuple #[.int .i64 (numOf (xs.take wd)), .slice (Option.map (fun x => x.add wd) ao) (n - wd) (cap - wd)]) ∧ ∃ q, w' = w.drewN q := by
  subst hW
  obtain ⟨v, hv⟩ : ∃ v, numOf (xs.take wd) = v := ⟨_, rfl⟩
  have hf := fun q : Nat => numberOf_any ao wd cap (xs.take wd) (w.drewN q) ((hr.first (a := wd) (by omega)).keep (w' := w.drewN q) fun _ _ _ => rfl) hw fun x hx => hbits x (List.mem_of_mem_take hx)
  rw [hv] at hf ⊢
  have HF := Lib.hid hf; clear hf hv hbits hr
  go_enter Tryd.func26, Tryd.ntmps26
  go_wp2
  go_quiet ((go_at_call 27; exact quiet_left (HF.out _)))
  go_wp2
  go_ret2
  exact ⟨rfl, _, rfl⟩

/-- What StateFromBits answers. -/
def stateFrom (xs : List Int) : Int × Int × Int × Int × Int × Int :=
  if isBits xs = false ∨ xs.length ≠ 64 then (0, 0, 0, 0, 0, 2) else (numIn xs 0 16, numIn xs 16 4, numIn xs 20 4, numIn xs 24 8, numIn xs 32 32, 0)
theorem sf_len {xs : List Int} (h : xs.length ≠ 64) : stateFrom xs = (0, 0, 0, 0, 0, 2) := by unfold stateFrom; rw [if_pos (.inr h)]
theorem sf_bits {xs : List Int} (h : isBits xs = false) : stateFrom xs = (0, 0, 0, 0, 0, 2) := by unfold stateFrom; rw [if_pos (.inl h)]
theorem sf_0 {xs : List Int} (h : isBits xs = true) (hl : xs.length = 64) : stateFrom xs = (numIn xs 0 16, numIn xs 16 4, numIn xs 20 4, numIn xs 24 8, numIn xs 32 32, 0) := by unfold stateFrom; rw [if_neg (by simp [h, hl])]
def Taken (w : World) (x : Int) (a : Option Addr) (n c : Nat) (e : Ending) (w' : World) : Prop := e = .returned (.tuple #[.int .i64 x, .slice a n c]) ∧ ∃ q, w' = w.drewN q
/-- The five numbers taken one behind the other. -/
theorem takes {ao : Option Addr} {cap : Nat} {xs : List Int} {w : World} (hr : Rd w ao 64 xs) (hcap : 64 ≤ cap) (hcap2 : cap ≤ 9223372036854775807) (hbits : ∀ x ∈ xs, 0 ≤ x ∧ x ≤ 1) :
    ∃ a1 c1 a2 c2 a3 c3 a4 c4, (∀ W, Below w.heap.size w W → Calls Tryd.prog 26 #[.slice ao 64 cap, .int .i64 16] W (Taken W (numIn xs 0 16) a1 48 c1)) ∧
      (∀ W, Below w.heap.size w W → Calls Tryd.prog 26 #[.slice a1 48 c1, .int .i64 4] W (Taken W (numIn xs 16 4) a2 44 c2)) ∧
      (∀ W, Below w.heap.size w W → Calls Tryd.prog 26 #[.slice a2 44 c2, .int .i64 4] W (Taken W (numIn xs 20 4) a3 40 c3)) ∧
      (∀ W, Below w.heap.size w W → Calls Tryd.prog 26 #[.slice a3 40 c3, .int .i64 8] W (Taken W (numIn xs 24 8) a4 32 c4)) ∧
      ∀ W, Below w.heap.size w W → Calls Tryd.prog 27 #[.slice a4 32 c4] W fun e w' => e = .returned (.int .i64 (numIn xs 32 32)) ∧ W = w' := by
  have hd : ∀ a, ∀ x ∈ xs.drop a, 0 ≤ x ∧ x ≤ 1 := fun a x hx => hbits x (List.mem_of_mem_drop hx)
  obtain ⟨a1, h1⟩ : ∃ a, Option.map (fun x : Addr => x.add 16) ao = a := ⟨_, rfl⟩
  obtain ⟨a2, h2⟩ : ∃ a, Option.map (fun x : Addr => x.add 4) a1 = a := ⟨_, rfl⟩
  obtain ⟨a3, h3⟩ : ∃ a, Option.map (fun x : Addr => x.add 4) a2 = a := ⟨_, rfl⟩
  obtain ⟨a4, h4⟩ : ∃ a, Option.map (fun x : Addr => x.add 8) a3 = a := ⟨_, rfl⟩
  have r1 := hr.rest (a := 16) (by omega)
  rw [h1] at r1
  have r2 := r1.rest (a := 4) (by omega)
  rw [h2, List.drop_drop] at r2
  have r3 := r2.rest (a := 4) (by omega)
  rw [h3, List.drop_drop] at r3
  have r4 := r3.rest (a := 8) (by omega)
  rw [h4, List.drop_drop] at r4
  refine ⟨a1, cap - 16, a2, cap - 20, a3, cap - 24, a4, cap - 32, ?_, ?_, ?_, ?_, ?_⟩
  · intro W hW
    have h := takeNumber_any ao 64 cap xs 16 16 W rfl (hr.below hW) hcap hcap2 (by omega) (by omega) hbits
    rwa [h1] at h
  · intro W hW
    have h := takeNumber_any a1 48 (cap - 16) (xs.drop 16) 4 4 W rfl (r1.below hW) (by omega) (by omega) (by omega) (by omega) (hd _)
    rwa [h2, show cap - 16 - 4 = cap - 20 from by omega] at h
  · intro W hW
    have h := takeNumber_any a2 44 (cap - 20) (xs.drop 20) 4 4 W rfl (r2.below hW) (by omega) (by omega) (by omega) (by omega) (hd _)
    rwa [h3, show cap - 20 - 4 = cap - 24 from by omega] at h
  · intro W hW
    have h := takeNumber_any a3 40 (cap - 24) (xs.drop 24) 8 8 W rfl (r3.below hW) (by omega) (by omega) (by omega) (by omega) (hd _)
    rwa [h4, show cap - 24 - 8 = cap - 32 from by omega] at h
  · intro W hW
    have h := numberOf_any a4 32 (cap - 32) (xs.drop 32) W (r4.below hW) (by omega) (hd _)
    have e : numOf (xs.drop 32) = numIn xs 32 32 := by unfold numIn; rw [List.take_of_length_le (by rw [List.length_drop, hr.len]; omega)]
    rwa [e] at h
set_option maxHeartbeats 1000000 in
theorem stateFromBits_any (ao : Option Addr) (cap : Nat) (xs : List Int) (w : World) (hr : Rd w ao xs.length xs) (_hn : xs.length ≤ 1048576) (hcap : xs.length ≤ cap) (hcap2 : cap ≤ 9223372036854775807) :
    Calls Tryd.prog 9 #[.slice ao xs.length cap] w (GivesState2 w (stateFrom xs)) := by
  by_cases hl : xs.length = 64
  · rcases hb : isBits xs with _ | _
    · rw [sf_bits hb]
      have HB := Lib.hid hb; clear hb
      have hr0 := hr.below (show Below w.heap.size w (w.alloc (.cells #[.int .i64 0, .int .i64 0, .int .i64 0, .int .i64 0, .int .i64 0] 25)) from (Below.refl _ _).alloc (Nat.le_refl _) _)
      have hi := isBits_any ao xs.length cap xs _ hr0 (by omega)
      rw [HB.out] at hi
      rw [hl] at hi ⊢
      have HI := Lib.hid hi
      clear hl _hn hcap hr hr0 hi
      go_enter Tryd.func9, Tryd.ntmps9
      go_wp2_with (go_at_call 25; refine (HI.out).mono ?_; rintro e w' ⟨rfl, rfl⟩)
      exact bodyPost_ret (v := .tuple #[.agg #[.int .i64 0, .int .i64 0, .int .i64 0, .int .i64 0, .int .i64 0], .int .i64 2]) (by simp [results, Tryd.results9, go_sem]) rfl ⟨rfl, (Below.refl _ _).alloc (Nat.le_refl _) _⟩
    · rw [sf_0 hb hl]
      have hbits := (isBits_iff.1 hb).2
      have HB := Lib.hid hb; clear hb
      have hr0 := hr.below (show Below w.heap.size w (w.alloc (.cells #[.int .i64 0, .int .i64 0, .int .i64 0, .int .i64 0, .int .i64 0] 25)) from (Below.refl _ _).alloc (Nat.le_refl _) _)
      have hi := isBits_any ao xs.length cap xs _ hr0 (by omega)
      rw [HB.out] at hi
      rw [hl] at hi hcap hr ⊢
      obtain ⟨a1, c1, a2, c2, a3, c3, a4, c4, t1, t2, t3, t4, t5⟩ := takes hr hcap hcap2 hbits
      generalize numIn xs 0 16 = y0 at t1 ⊢
      generalize numIn xs 16 4 = y1 at t2 ⊢
      generalize numIn xs 20 4 = y2 at t3 ⊢
      generalize numIn xs 24 8 = y3 at t4 ⊢
      generalize numIn xs 32 32 = y4 at t5 ⊢
      have HI := Lib.hid hi
      have T1 := Lib.hid t1
      have T2 := Lib.hid t2
      have T3 := Lib.hid t3
      have T4 := Lib.hid t4
      have T5 := Lib.hid t5
      clear hl _hn hcap hr hr0 hi t1 t2 t3 t4 t5 hbits HB
      go_enter Tryd.func9, Tryd.ntmps9
      go_wp2_with (first
        | (go_at_call 25; refine (HI.out).mono ?_; rintro e w' ⟨rfl, rfl⟩)
        | (go_at_call 26; fail))
      obtain ⟨R0, S0⟩ := state_new2 (Below.refl ((w.alloc (.cells #[.int .i64 0, .int .i64 0, .int .i64 0, .int .i64 0, .int .i64 0] 25)).alloc (.cells #[.int .i64 0, .int .i64 0, .int .i64 0, .int .i64 0, .int .i64 0] 25)).heap.size ((w.alloc (.cells #[.int .i64 0, .int .i64 0, .int .i64 0, .int .i64 0, .int .i64 0] 25)).alloc (.cells #[.int .i64 0, .int .i64 0, .int .i64 0, .int .i64 0, .int .i64 0] 25)))
      have B0 : Below w.heap.size w ((w.alloc (.cells #[.int .i64 0, .int .i64 0, .int .i64 0, .int .i64 0, .int .i64 0] 25)).alloc (.cells #[.int .i64 0, .int .i64 0, .int .i64 0, .int .i64 0, .int .i64 0] 25)) := below_box2 (Below.refl _ _)
      generalize ((w.alloc (.cells #[.int .i64 0, .int .i64 0, .int .i64 0, .int .i64 0, .int .i64 0] 25)).alloc (.cells #[.int .i64 0, .int .i64 0, .int .i64 0, .int .i64 0, .int .i64 0] 25)) = w0 at R0 S0 B0 ⊢
      refine (T1.out _ B0).mono ?_
      rintro e v0 ⟨rfl, q0, rfl⟩
      replace R0 : StateAt 25 (w0.drewN q0) w.heap.size 0 0 0 0 0 := R0
      replace S0 : StateAt 25 (w0.drewN q0) (w.heap.size + 1) 0 0 0 0 0 := S0
      have C0 : Below w.heap.size w (w0.drewN q0) := below_drewN' B0 _
      have f0 := S0.f 0
      have c0 := S0.c0
      go_upto_region 6 with fail
      clear f0 c0
      have S1 := S0.set0 y0
      have R1 := StateAt.other (c := w.heap.size + 1) (i := 0) (v := .int .i64 y0) R0 (by omega)
      have B1 := below_two' C0 ((Below.refl w.heap.size (w0.drewN q0)).setCell (p := ⟨w.heap.size + 1, 0, none⟩) (by simp) (.int .i64 y0))
      generalize World.setCell (w0.drewN q0) ⟨w.heap.size + 1, 0, none⟩ (.int .i64 y0) = w1 at S1 R1 B1 ⊢
      clear S0 R0 B0 C0 T1
      go_wp2_with fail
      refine (T2.out _ B1).mono ?_
      rintro e v1 ⟨rfl, q1, rfl⟩
      replace R1 : StateAt 25 (w1.drewN q1) w.heap.size 0 0 0 0 0 := R1
      replace S1 : StateAt 25 (w1.drewN q1) (w.heap.size + 1) y0 0 0 0 0 := S1
      have C1 : Below w.heap.size w (w1.drewN q1) := below_drewN' B1 _
      have f1 := S1.f 1
      have c1 := S1.c1
      go_upto_region 7 with fail
      clear f1 c1
      have S2 := S1.set1 y1
      have R2 := StateAt.other (c := w.heap.size + 1) (i := 1) (v := .int .i64 y1) R1 (by omega)
      have B2 := below_two' C1 ((Below.refl w.heap.size (w1.drewN q1)).setCell (p := ⟨w.heap.size + 1, 1, none⟩) (by simp) (.int .i64 y1))
      generalize World.setCell (w1.drewN q1) ⟨w.heap.size + 1, 1, none⟩ (.int .i64 y1) = w2 at S2 R2 B2 ⊢
      clear S1 R1 B1 C1 T2
      go_wp2_with fail
      refine (T3.out _ B2).mono ?_
      rintro e v2 ⟨rfl, q2, rfl⟩
      replace R2 : StateAt 25 (w2.drewN q2) w.heap.size 0 0 0 0 0 := R2
      replace S2 : StateAt 25 (w2.drewN q2) (w.heap.size + 1) y0 y1 0 0 0 := S2
      have C2 : Below w.heap.size w (w2.drewN q2) := below_drewN' B2 _
      have f2 := S2.f 2
      have c2 := S2.c2
      go_upto_region 8 with fail
      clear f2 c2
      have S3 := S2.set2 y2
      have R3 := StateAt.other (c := w.heap.size + 1) (i := 2) (v := .int .i64 y2) R2 (by omega)
      have B3 := below_two' C2 ((Below.refl w.heap.size (w2.drewN q2)).setCell (p := ⟨w.heap.size + 1, 2, none⟩) (by simp) (.int .i64 y2))
      generalize World.setCell (w2.drewN q2) ⟨w.heap.size + 1, 2, none⟩ (.int .i64 y2) = w3 at S3 R3 B3 ⊢
      clear S2 R2 B2 C2 T3
      go_wp2_with fail
      refine (T4.out _ B3).mono ?_
      rintro e v3 ⟨rfl, q3, rfl⟩
      replace R3 : StateAt 25 (w3.drewN q3) w.heap.size 0 0 0 0 0 := R3
      replace S3 : StateAt 25 (w3.drewN q3) (w.heap.size + 1) y0 y1 y2 0 0 := S3
      have C3 : Below w.heap.size w (w3.drewN q3) := below_drewN' B3 _
      have f3 := S3.f 3
      have c3 := S3.c3
      go_upto_region 9 with fail
      clear f3 c3
      have S4 := S3.set3 y3
      have R4 := StateAt.other (c := w.heap.size + 1) (i := 3) (v := .int .i64 y3) R3 (by omega)
      have B4 := below_two' C3 ((Below.refl w.heap.size (w3.drewN q3)).setCell (p := ⟨w.heap.size + 1, 3, none⟩) (by simp) (.int .i64 y3))
      generalize World.setCell (w3.drewN q3) ⟨w.heap.size + 1, 3, none⟩ (.int .i64 y3) = w4 at S4 R4 B4 ⊢
      clear S3 R3 B3 C3 T4
      go_wp2_with fail
      refine (T5.out _ B4).mono ?_
      rintro e v4 ⟨rfl, rfl⟩
      replace R4 : StateAt 25 w4 w.heap.size 0 0 0 0 0 := R4
      replace S4 : StateAt 25 w4 (w.heap.size + 1) y0 y1 y2 y3 0 := S4
      have C4 : Below w.heap.size w w4 := B4
      have f4 := S4.f 4
      have c4 := S4.c4
      go_upto_region 10 with fail
      clear f4 c4
      have S5 := S4.set4 y4
      have R5 := StateAt.other (c := w.heap.size + 1) (i := 4) (v := .int .i64 y4) R4 (by omega)
      have B5 := below_two' C4 ((Below.refl w.heap.size w4).setCell (p := ⟨w.heap.size + 1, 4, none⟩) (by simp) (.int .i64 y4))
      generalize World.setCell w4 ⟨w.heap.size + 1, 4, none⟩ (.int .i64 y4) = w5 at S5 R5 B5 ⊢
      clear S4 R4 B4 C4 T5
      have c0 := S5.c0
      have c1 := S5.c1
      have c2 := S5.c2
      have c3 := S5.c3
      have c4 := S5.c4
      have d0 := R5.c0
      have d1 := R5.c1
      have d2 := R5.c2
      have d3 := R5.c3
      have d4 := R5.c4
      have f0 := R5.f 0
      have f1 := R5.f 1
      have f2 := R5.f 2
      have f3 := R5.f 3
      have f4 := R5.f 4
      go_wp2_with fail
      clear c0 c1 c2 c3 c4 d0 d1 d2 d3 d4 f0 f1 f2 f3 f4
      change bodyPost _ _ _ _ _ (setFive w5 w.heap.size y0 y1 y2 y3 y4)
      have SF := StateAt.five R5 y0 y1 y2 y3 y4
      have BF := below_two' B5 (below_five (B := w.heap.size) (w := w5) (b := w.heap.size) (by omega) y0 y1 y2 y3 y4)
      generalize setFive w5 w.heap.size y0 y1 y2 y3 y4 = wz at SF BF ⊢
      have e0 := SF.c0
      have e1 := SF.c1
      have e2 := SF.c2
      have e3 := SF.c3
      have e4 := SF.c4
      exact bodyPost_ret (v := .tuple #[.agg #[.int .i64 y0, .int .i64 y1, .int .i64 y2, .int .i64 y3, .int .i64 y4], .int .i64 0]) (by simp [results, Tryd.results9, go_sem, e0, e1, e2, e3, e4]) rfl ⟨rfl, BF⟩
  · rw [sf_len hl]
    have h1 : ((xs.length : Int) != 64) = true := by simp; omega
    clear hr
    go_enter Tryd.func9, Tryd.ntmps9
    go_wp2_with fail
    exact bodyPost_ret (v := .tuple #[.agg #[.int .i64 0, .int .i64 0, .int .i64 0, .int .i64 0, .int .i64 0], .int .i64 2]) (by simp [results, Tryd.results9, go_sem]) rfl ⟨rfl, (Below.refl _ _).alloc (Nat.le_refl _) _⟩
theorem sNum (ao : Option Addr) (n cap : Nat) (xs : List Int) (a wd : Nat) (A B : Int) (w : World) (hA : (a : Int) = A) (hB : (wd : Int) = B) (hr : Rd w ao n xs) (hn : n ≤ 4294967296) (haw : a + wd ≤ n) (hwd : wd ≤ 40) (hbits : ∀ x ∈ xs, 0 ≤ x ∧ x ≤ 1) :
    Calls Tryd.prog 42 #[.slice ao n cap, .int .i64 A, .int .i64 B] w fun e w' => e = .returned (.int .i64 (numIn xs a wd)) ∧ w = w' := by
  subst hA; subst hB; exact l01Number_any ao n cap xs a wd w hr hn haw hwd hbits
theorem l04State_any (ao : Option Addr) (cap : Nat) (xs : List Int) (w : World) (hr : Rd w ao 64 xs) (hbits : ∀ x ∈ xs, 0 ≤ x ∧ x ≤ 1) :
    Calls Tryd.prog 29 #[.slice ao 64 cap] w (GivesState w (numIn xs 0 16) (numIn xs 16 4) (numIn xs 20 4) (numIn xs 24 8) (numIn xs 32 32)) := by
  have hr0 := hr.below (show Below w.heap.size w (w.alloc (.cells #[.int .i64 0, .int .i64 0, .int .i64 0, .int .i64 0, .int .i64 0] 25)) from (Below.refl _ _).alloc (Nat.le_refl _) _)
  have t1 := sNum ao 64 cap xs 0 16 0 16 _ rfl rfl hr0 (by omega) (by omega) (by omega) hbits
  have t2 := sNum ao 64 cap xs 16 4 16 4 _ rfl rfl hr0 (by omega) (by omega) (by omega) hbits
  have t3 := sNum ao 64 cap xs 20 4 20 4 _ rfl rfl hr0 (by omega) (by omega) (by omega) hbits
  have t4 := sNum ao 64 cap xs 24 8 24 8 _ rfl rfl hr0 (by omega) (by omega) (by omega) hbits
  have t5 := sNum ao 64 cap xs 32 32 32 32 _ rfl rfl hr0 (by omega) (by omega) (by omega) hbits
  generalize numIn xs 0 16 = y0 at t1 ⊢
  generalize numIn xs 16 4 = y1 at t2 ⊢
  generalize numIn xs 20 4 = y2 at t3 ⊢
  generalize numIn xs 24 8 = y3 at t4 ⊢
  generalize numIn xs 32 32 = y4 at t5 ⊢
  have T1 := Lib.hid t1
  have T2 := Lib.hid t2
  have T3 := Lib.hid t3
  have T4 := Lib.hid t4
  have T5 := Lib.hid t5
  clear t1 t2 t3 t4 t5 hr hr0 hbits
  go_enter Tryd.func29, Tryd.ntmps29
  go_wp2_with fail
  refine (T1.out).mono ?_
  rintro e w1 ⟨rfl, rfl⟩
  go_wp2_with fail
  refine (T2.out).mono ?_
  rintro e w1 ⟨rfl, rfl⟩
  go_wp2_with fail
  refine (T3.out).mono ?_
  rintro e w1 ⟨rfl, rfl⟩
  go_wp2_with fail
  refine (T4.out).mono ?_
  rintro e w1 ⟨rfl, rfl⟩
  go_wp2_with fail
  refine (T5.out).mono ?_
  rintro e w1 ⟨rfl, rfl⟩
  go_wp2_with fail
  exact bodyPost_ret (v := .agg #[.int .i64 y0, .int .i64 y1, .int .i64 y2, .int .i64 y3, .int .i64 y4]) (by simp [results, Tryd.results29, go_sem]) rfl ⟨rfl, (Below.refl _ _).alloc (Nat.le_refl _) _⟩
theorem sStateFromBits_any (ao : Option Addr) (cap : Nat) (xs : List Int) (w : World) (hr : Rd w ao xs.length xs) (hn : xs.length ≤ 1048576) :
    Calls Tryd.prog 10 #[.slice ao xs.length cap] w (GivesState2 w (stateFrom xs)) := by
  have hr0 := hr.below (show Below w.heap.size w (w.alloc (.cells #[.int .i64 0, .int .i64 0, .int .i64 0, .int .i64 0, .int .i64 0] 25)) from (Below.refl _ _).alloc (Nat.le_refl _) _)
  have hi := sIsBits_any ao xs.length cap xs _ hr0 (by omega)
  rcases hb : isBits xs with _ | _
  · rw [sf_bits hb]
    rw [hb] at hi
    have HI := Lib.hid hi
    clear hi hb hr hr0
    go_enter Tryd.func10, Tryd.ntmps10
    go_wp2_with (go_at_call 28; refine (HI.out).mono ?_; rintro e w' ⟨rfl, rfl⟩)
    exact bodyPost_ret (v := .tuple #[.agg #[.int .i64 0, .int .i64 0, .int .i64 0, .int .i64 0, .int .i64 0], .int .i64 2]) (by simp [results, Tryd.results10, go_sem]) rfl ⟨rfl, (Below.refl _ _).alloc (Nat.le_refl _) _⟩
  by_cases hl : xs.length = 64
  · rw [sf_0 hb hl]
    have hbits := (isBits_iff.1 hb).2
    rw [hb] at hi
    rw [hl] at hi hr hr0 ⊢
    have hs := l04State_any ao cap xs _ hr0 hbits
    generalize numIn xs 0 16 = y0 at hs ⊢
    generalize numIn xs 16 4 = y1 at hs ⊢
    generalize numIn xs 20 4 = y2 at hs ⊢
    generalize numIn xs 24 8 = y3 at hs ⊢
    generalize numIn xs 32 32 = y4 at hs ⊢
    have HI := Lib.hid hi
    have HS := Lib.hid hs
    clear hi hs hb hr hr0 hbits hl hn
    go_enter Tryd.func10, Tryd.ntmps10
    go_wp2_with (go_at_call 28; refine (HI.out).mono ?_; rintro e w' ⟨rfl, rfl⟩)
    refine (HS.out).mono ?_
    rintro e w1 ⟨rfl, b1⟩
    have Z1 := state_new b1
    have c0 := Z1.c0
    have c1 := Z1.c1
    have c2 := Z1.c2
    have c3 := Z1.c3
    have c4 := Z1.c4
    have f0 := Z1.f 0
    have f1 := Z1.f 1
    have f2 := Z1.f 2
    have f3 := Z1.f 3
    have f4 := Z1.f 4
    go_wp2_with fail
    clear c0 c1 c2 c3 c4 f0 f1 f2 f3 f4
    change bodyPost _ _ _ _ _ (setFive w1 w.heap.size y0 y1 y2 y3 y4)
    have SF := StateAt.five Z1 y0 y1 y2 y3 y4
    have BF := below_two' (below_box b1) (below_five (B := w.heap.size) (w := w1) (b := w.heap.size) (by omega) y0 y1 y2 y3 y4)
    generalize setFive w1 w.heap.size y0 y1 y2 y3 y4 = wz at SF BF ⊢
    have e0 := SF.c0
    have e1 := SF.c1
    have e2 := SF.c2
    have e3 := SF.c3
    have e4 := SF.c4
    exact bodyPost_ret (v := .tuple #[.agg #[.int .i64 y0, .int .i64 y1, .int .i64 y2, .int .i64 y3, .int .i64 y4], .int .i64 0]) (by simp [results, Tryd.results10, go_sem, e0, e1, e2, e3, e4]) rfl ⟨rfl, BF⟩
  · rw [sf_len hl]
    rw [hb] at hi
    have h1 : ((xs.length : Int) != 64) = true := by simp; omega
    have HI := Lib.hid hi
    clear hi hb hr hr0
    go_enter Tryd.func10, Tryd.ntmps10
    go_wp2_with (go_at_call 28; refine (HI.out).mono ?_; rintro e w' ⟨rfl, rfl⟩)
    exact bodyPost_ret (v := .tuple #[.agg #[.int .i64 0, .int .i64 0, .int .i64 0, .int .i64 0, .int .i64 0], .int .i64 2]) (by simp [results, Tryd.results10, go_sem]) rfl ⟨rfl, (Below.refl _ _).alloc (Nat.le_refl _) _⟩
end Go.Proofs.YtkidhilipeoliaaDoor
