/-
  Chapter 4: StateText on the specification's side.
-/
import Derived.Test.YtkidhilipeoliaaDoorC4r
namespace Go.Proofs.YtkidhilipeoliaaDoor
open Go.RowKit

theorem ret_str {a b : ByteArray} (h : a = b) : Ending.returned (.string a) = .returned (.string b) := by rw [h]
theorem state_drew {T b : Nat} {w : World} {t m r s k : Int} (h : StateAt T w b t m r s k) : StateAt T w.drew b t m r s k := h
theorem add_small (a b : ByteArray) (ha : a.size ≤ 1000) (hb : b.size ≤ 1000) (w : World) : (Op.stringOp .add a b).run Tryd.prog w = .ok (.string (a ++ b)) w :=
  run_string_add w a b (by omega) (by omega)
set_option maxRecDepth 100000 in
set_option maxHeartbeats 1000000 in
theorem sStateText_any (t m r s k : Int) (w : World) : Calls Tryd.prog 16 #[.agg #[.int .i64 t, .int .i64 m, .int .i64 r, .int .i64 s, .int .i64 k]] w (GivesStr w (textStr t m r s k)) := by
  rcases hI : isState t m r s k with _ | _
  · rw [ts_1 hI]
    have HI := Lib.hid hI; clear hI
    go_enter Tryd.func16, Tryd.ntmps16
    go_wp2_with fail
    refine (sIsState_any _ _ _ _ _ _).mono ?_
    rintro e w1 ⟨rfl, b1⟩
    rw [HI.out]
    go_wp2
    go_ret
    exact ⟨rfl, below_box b1⟩
  · rw [ts_0 hI]
    obtain ⟨⟨a0, a1⟩, ⟨a2, a3⟩, ⟨a4, a5⟩, ⟨a6, a7⟩, a8, a9⟩ := isState_iff.1 hI
    obtain ⟨t, rfl⟩ := Int.eq_ofNat_of_zero_le a0
    obtain ⟨m, rfl⟩ := Int.eq_ofNat_of_zero_le a2
    obtain ⟨r, rfl⟩ := Int.eq_ofNat_of_zero_le a4
    obtain ⟨s, rfl⟩ := Int.eq_ofNat_of_zero_le a6
    obtain ⟨k, rfl⟩ := Int.eq_ofNat_of_zero_le a8
    rw [slashed_five]
    have z1 := decStr_size t (by omega)
    have l1 := fun w => l01Dec_any t w (by omega)
    have z2 := decStr_size m (by omega)
    have l2 := fun w => l01Dec_any m w (by omega)
    have z3 := decStr_size r (by omega)
    have l3 := fun w => l01Dec_any r w (by omega)
    have z4 := decStr_size s (by omega)
    have l4 := fun w => l01Dec_any s w (by omega)
    have z5 := decStr_size k (by omega)
    have l5 := fun w => l01Dec_any k w (by omega)
    obtain ⟨D1, hD⟩ : ∃ D, decStr t = D := ⟨_, rfl⟩
    rw [hD] at z1 l1 ⊢
    clear hD
    obtain ⟨D2, hD⟩ : ∃ D, decStr m = D := ⟨_, rfl⟩
    rw [hD] at z2 l2 ⊢
    clear hD
    obtain ⟨D3, hD⟩ : ∃ D, decStr r = D := ⟨_, rfl⟩
    rw [hD] at z3 l3 ⊢
    clear hD
    obtain ⟨D4, hD⟩ : ∃ D, decStr s = D := ⟨_, rfl⟩
    rw [hD] at z4 l4 ⊢
    clear hD
    obtain ⟨D5, hD⟩ : ∃ D, decStr k = D := ⟨_, rfl⟩
    rw [hD] at z5 l5 ⊢
    clear hD
    have q1 : (⟨#[47]⟩ : ByteArray).size = 1 := rfl
    have ad0 := add_small (D1) ⟨#[47]⟩ (by (try simp only [ByteArray.size_append]); omega) (by omega)
    have ad1 := add_small (D1 ++ ⟨#[47]⟩) D2 (by (try simp only [ByteArray.size_append]); omega) (by omega)
    have ad2 := add_small (D1 ++ ⟨#[47]⟩ ++ D2) ⟨#[47]⟩ (by (try simp only [ByteArray.size_append]); omega) (by omega)
    have ad3 := add_small (D1 ++ ⟨#[47]⟩ ++ D2 ++ ⟨#[47]⟩) D3 (by (try simp only [ByteArray.size_append]); omega) (by omega)
    have ad4 := add_small (D1 ++ ⟨#[47]⟩ ++ D2 ++ ⟨#[47]⟩ ++ D3) ⟨#[47]⟩ (by (try simp only [ByteArray.size_append]); omega) (by omega)
    have ad5 := add_small (D1 ++ ⟨#[47]⟩ ++ D2 ++ ⟨#[47]⟩ ++ D3 ++ ⟨#[47]⟩) D4 (by (try simp only [ByteArray.size_append]); omega) (by omega)
    have ad6 := add_small (D1 ++ ⟨#[47]⟩ ++ D2 ++ ⟨#[47]⟩ ++ D3 ++ ⟨#[47]⟩ ++ D4) ⟨#[47]⟩ (by (try simp only [ByteArray.size_append]); omega) (by omega)
    have ad7 := add_small (D1 ++ ⟨#[47]⟩ ++ D2 ++ ⟨#[47]⟩ ++ D3 ++ ⟨#[47]⟩ ++ D4 ++ ⟨#[47]⟩) D5 (by (try simp only [ByteArray.size_append]); omega) (by omega)
    obtain ⟨F, hF⟩ : ∃ F, D1 ++ ⟨#[47]⟩ ++ D2 ++ ⟨#[47]⟩ ++ D3 ++ ⟨#[47]⟩ ++ D4 ++ ⟨#[47]⟩ ++ D5 = F := ⟨_, rfl⟩
    rw [hF]
    have HFF := Lib.hid hF; clear hF q1
    have L1 := Lib.hid l1; clear l1 z1
    have L2 := Lib.hid l2; clear l2 z2
    have L3 := Lib.hid l3; clear l3 z3
    have L4 := Lib.hid l4; clear l4 z4
    have L5 := Lib.hid l5; clear l5 z5
    have HI := Lib.hid hI; clear hI a0 a1 a2 a3 a4 a5 a6 a7 a8 a9
    go_enter Tryd.func16, Tryd.ntmps16
    go_wp2_with fail
    refine (sIsState_any _ _ _ _ _ _).mono ?_
    rintro e w1 ⟨rfl, b1⟩
    rw [HI.out]
    go_upto_region 3 with fail
    have S1 := Lib.hid (state_drew (state_new b1))
    have B1 := Lib.hid (below_box b1).drew
    clear b1
    go_region_held3 (fun w' => w'.cell? ⟨w.heap.size, 0, none⟩ = some (.int .i64 (t : Nat)) ∧ w'.cell? ⟨w.heap.size, 1, none⟩ = some (.int .i64 (m : Nat)) ∧ w'.cell? ⟨w.heap.size, 2, none⟩ = some (.int .i64 (r : Nat)) ∧ w'.cell? ⟨w.heap.size, 3, none⟩ = some (.int .i64 (s : Nat)) ∧ w'.cell? ⟨w.heap.size, 4, none⟩ = some (.int .i64 (k : Nat)))
      (first | with_reducible exact ⟨S1.out.c0, S1.out.c1, S1.out.c2, S1.out.c3, S1.out.c4⟩ | with_reducible exact ⟨S2.out.c0, S2.out.c1, S2.out.c2, S2.out.c3, S2.out.c4⟩ | with_reducible exact ⟨S3.out.c0, S3.out.c1, S3.out.c2, S3.out.c3, S3.out.c4⟩ | with_reducible exact ⟨S4.out.c0, S4.out.c1, S4.out.c2, S4.out.c3, S4.out.c4⟩ | with_reducible exact ⟨S5.out.c0, S5.out.c1, S5.out.c2, S5.out.c3, S5.out.c4⟩ | with_reducible exact ⟨S6.out.c0, S6.out.c1, S6.out.c2, S6.out.c3, S6.out.c4⟩)
      (first
        | (go_at_call 36; (with_reducible refine (L1.out _).mono ?_); rintro e v1 ⟨rfl, b1⟩; have S2 := Lib.hid (S1.out.below b1 S1.out.lt); have B2 := Lib.hid (B1.out.trans (b1.mono B1.out.size)); clear b1 S1 B1)
        | (go_at_call 36; (with_reducible refine (L2.out _).mono ?_); rintro e v2 ⟨rfl, b2⟩; have S3 := Lib.hid (S2.out.below b2 S2.out.lt); have B3 := Lib.hid (B2.out.trans (b2.mono B2.out.size)); clear b2 S2 B2)
        | (go_at_call 36; (with_reducible refine (L3.out _).mono ?_); rintro e v3 ⟨rfl, b3⟩; have S4 := Lib.hid (S3.out.below b3 S3.out.lt); have B4 := Lib.hid (B3.out.trans (b3.mono B3.out.size)); clear b3 S3 B3)
        | (go_at_call 36; (with_reducible refine (L4.out _).mono ?_); rintro e v4 ⟨rfl, b4⟩; have S5 := Lib.hid (S4.out.below b4 S4.out.lt); have B5 := Lib.hid (B4.out.trans (b4.mono B4.out.size)); clear b4 S4 B4)
        | (go_at_call 36; (with_reducible refine (L5.out _).mono ?_); rintro e v5 ⟨rfl, b5⟩; have S6 := Lib.hid (S5.out.below b5 S5.out.lt); have B6 := Lib.hid (B5.out.trans (b5.mono B5.out.size)); clear b5 S5 B5))
    go_wp2_with fail
    go_ret
    exact ⟨ret_str HFF.out, B6.out⟩
end Go.Proofs.YtkidhilipeoliaaDoor
