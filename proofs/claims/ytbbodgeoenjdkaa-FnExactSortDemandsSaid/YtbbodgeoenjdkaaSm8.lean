/-
  slices.SortStableFunc of demands; SortDemands of the program and of the model.
-/
import Derived.Test.YtbbodgeoenjdkaaSm6
import Derived.Test.YtbbodgeoenjdkaaSm7
import Derived.Test.YtbbodgeoenjdkaaPl1
namespace Go.Proofs.Ytbbodgeoenjdkaa
open Go.RowKit

set_option maxRecDepth 100000 in
theorem symMerge_any (w0 : World) (base g N cap : Nat) (hN : N ≤ 1048576) : ∀ (D a m b : Nat) (f : Nat → Dm) (w : World), b - a ≤ D → a < m → m < b → b ≤ N → SdF f a m → SdF f m b → SoAt w0 w base g N cap f →
    Calls Try.prog 87 #[.slice (some ⟨g, 0, none⟩) N cap, .int .i64 (a : Int), .int .i64 (m : Int), .int .i64 (b : Int), .func (.func 57) #[] #[]] w fun e w' => e = .returned (.tuple #[]) ∧ ∃ k, SoAt w0 w' base g N cap k ∧ MgF N f k a b
  | 0, a, m, b, _, _, hD, h1, h2, _, _, _, _ => absurd hD (by omega)
  | D + 1, a, m, b, f, w, hD, h1, h2, h3, hs1, hs2, h => by
    by_cases e1 : m = a + 1
    · subst e1
      exact merge_one w0 w base g N cap f h hN a b h2 h3 hs2
    · by_cases e2 : b = m + 1
      · subst e2
        exact merge_last w0 w base g N cap f h hN a m (by omega) h3 hs1
      · have ih := fun (a' m' b' : Nat) (f' : Nat → Dm) (w' : World) (hd : b' - a' < b - a) => symMerge_any w0 base g N cap hN D a' m' b' f' w' (by omega)
        by_cases e3 : (a + b) / 2 < m
        · exact merge_up w0 w base g N cap f h hN a m b (by omega) (by omega) h3 hs1 hs2 (b - a) rfl ih e3
        · exact merge_dn w0 w base g N cap f h hN a m b (by omega) (by omega) h3 hs1 hs2 (b - a) rfl ih (by omega)
/-! ### blocks of twenty, then merges -/
structure UnF (N : Nat) (f k : Nat → Dm) : Prop where
  out : ∀ x, N ≤ x → k x = f x
  sm : SmF N k f
  inn : ∀ x, x < N → ∃ y, y < N ∧ k x = f y
theorem UnF.refl (N : Nat) (f : Nat → Dm) : UnF N f f := ⟨fun _ _ => rfl, SmF.refl _ _, fun x h => ⟨x, h, rfl⟩⟩
theorem UnF.step {N a b : Nat} {f k k' : Nat → Dm} (h : UnF N f k) (m : MgF N k k' a b) (hb : b ≤ N) : UnF N f k' := by
  refine ⟨fun x hx => (m.out x (by omega)).trans (h.out x hx), m.sm.trans h.sm, fun x hx => ?_⟩
  by_cases hi : a ≤ x ∧ x < b
  · obtain ⟨y, y1, y2, e⟩ := m.inn x hi.1 hi.2
    obtain ⟨z, z1, e2⟩ := h.inn y (by omega)
    exact ⟨z, z1, e.trans e2⟩
  · rw [m.out x (by omega)]
    exact h.inn x hx
theorem UnF.mg {N : Nat} {f k : Nat → Dm} (h : UnF N f k) (hs : SdF k 0 N) : MgF N f k 0 N :=
  ⟨fun x hx => h.out x (by omega), hs, h.sm, fun x _ h2 => by obtain ⟨y, y1, e⟩ := h.inn x h2; exact ⟨y, Nat.zero_le _, y1, e⟩⟩
/-- q blocks of twenty are sorted. -/
structure BkF (N : Nat) (f k : Nat → Dm) (q : Nat) : Prop where
  un : UnF N f k
  s0 : 1 ≤ q → SdF k 0 20
  s1 : 2 ≤ q → SdF k 20 40
theorem BkF.next {N q : Nat} {f k k' : Nat → Dm} (h : BkF N f k q) (hq : q ≤ 1) (m : MgF N k k' (20 * q) (20 * q + 20)) (hN : 20 * q + 20 ≤ N) : BkF N f k' (q + 1) := by
  refine ⟨h.un.step m hN, fun _ => ?_, fun h2 => ?_⟩
  · by_cases e : q = 0
    · subst e; exact m.sd
    · have h0 := h.s0 (by omega)
      intro i j i1 i2 i3
      rw [m.out i (by omega), m.out j (by omega)]
      exact h0 i j i1 i2 i3
  · have e : q = 1 := by omega
    subst e; exact m.sd
/-- Where the last block is sorted too: the first one, and all behind it. -/
theorem BkF.last {N q : Nat} {f k k' : Nat → Dm} (h : BkF N f k q) (hq : q ≤ 2) (h1 : 20 * q ≤ N) (h2 : N < 20 * q + 20) (hN : N ≤ 40) (m : MgF N k k' (20 * q) N) : UnF N f k' ∧ (N ≤ 20 → SdF k' 0 N) ∧ (20 < N → SdF k' 0 20 ∧ SdF k' 20 N) := by
  refine ⟨h.un.step m (Nat.le_refl _), fun h3 => ?_, fun h3 => ⟨?_, ?_⟩⟩
  · by_cases e : q = 0
    · subst e; exact m.sd
    · have h0 := h.s0 (by omega)
      intro i j i1 i2 i3
      rw [m.out i (by omega), m.out j (by omega)]
      exact h0 i j i1 i2 (by omega)
  · have h0 := h.s0 (by omega)
    intro i j i1 i2 i3
    rw [m.out i (by omega), m.out j (by omega)]
    exact h0 i j i1 i2 i3
  · by_cases e : q = 1
    · subst e; exact m.sd
    · have h0 := h.s1 (by omega)
      intro i j i1 i2 i3
      rw [m.out i (by omega), m.out j (by omega)]
      exact h0 i j i1 i2 (by omega)
set_option maxRecDepth 100000 in
set_option maxHeartbeats 4000000 in
set_option linter.unusedSimpArgs false in
/-- Rows of at most 40 entries: at most two blocks and one merge. -/
theorem stable_any (w0 w : World) (base g N cap : Nat) (f : Nat → Dm) (h : SoAt w0 w base g N cap f) (hN : N ≤ 40) :
    Calls Try.prog 81 #[.slice (some ⟨g, 0, none⟩) N cap, .int .i64 (N : Int), .func (.func 57) #[] #[]] w fun e w' => e = .returned (.tuple #[]) ∧ ∃ k, SoAt w0 w' base g N cap k ∧ MgF N f k 0 N := by
  have H := Lib.hid h; clear h
  have HIN := Lib.hid (fun (a b : Nat) (k : Nat → Dm) W (hW : SoAt w0 W base g N cap k) (h1 : a ≤ b) (h2 : b ≤ N) => insertion_any w0 W base g N cap k hW (by omega) a b h1 h2)
  have HSY := Lib.hid (fun (b : Nat) (k : Nat → Dm) W (hW : SoAt w0 W base g N cap k) (h1 : 20 < b) (h2 : b ≤ N) (s1 : SdF k 0 20) (s2 : SdF k 20 b) => (symMerge_any w0 base g N cap (by omega) b 0 20 b k W (by omega) (by omega) h1 h2 s1 s2 hW : Calls Try.prog 87 #[.slice (some ⟨g, 0, none⟩) N cap, .int .i64 0, .int .i64 20, .int .i64 (b : Int), .func (.func 57) #[] #[]] W fun e w' => e = .returned (.tuple #[]) ∧ ∃ k', SoAt w0 w' base g N cap k' ∧ MgF N k k' 0 b))
  go_enter Try.func81, Try.ntmps81
  go_wp2
  go_loopw [7, 8] (fun s7 s8 wr => ∃ (q : Nat) (k : Nat → Dm), s7 = .int .i64 ((20 * q : Nat) : Int) ∧ s8 = .int .i64 ((20 * q + 20 : Nat) : Int) ∧ 20 * q ≤ N ∧ Hid (SoAt w0 wr base g N cap k) ∧ Hid (BkF N f k q)) (fun s7 _ _ => 60 - (intOf s7).toNat)
  case atStart => exact ⟨0, f, rfl, rfl, by omega, H.out, ⟨UnF.refl N f, fun h => absurd h (by omega), fun h => absurd h (by omega)⟩⟩
  case round =>
    clear H
    obtain ⟨q, k, rfl, rfl, hq, H, HB⟩ := hrel
    obtain ⟨a, ha⟩ : ∃ a, a = 20 * q := ⟨_, rfl⟩
    obtain ⟨b, hb⟩ : ∃ b, b = 20 * q + 20 := ⟨_, rfl⟩
    have eb : ((20 * q + 20 : Nat) : Int) = (b : Int) := by omega
    have ea : ((20 * q : Nat) : Int) = (a : Int) := by omega
    have HA := Lib.hid ha; have HBB := Lib.hid hb
    simp only [eb, ea]
    clear eb ea
    by_cases hlt : b ≤ N
    · have hlt2 : (b : Int) ≤ (N : Int) := by omega
      have HI1 := Lib.hid (HIN.out a b k _ H.out (by omega) hlt)
      have hb2 : b ≤ 40 := by omega
      clear ha hb hq
      go_wp2_with fail
      refine HI1.out.mono ?_
      rintro e w1 ⟨rfl, k1, s1, m1⟩
      have H1 := Lib.hid s1
      have HB1 := Lib.hid (show BkF N f k1 (q + 1) from by
        have e1 := HA.out; have e2 := HBB.out
        rw [e1, e2] at m1
        exact HB.out.next (by omega) m1 (by omega))
      clear s1 m1 H HB HI1
      go_wp2
      go_roundw
      case rel => exact ⟨q + 1, k1, by rw [show 20 * (q + 1) = b from by have := HBB.out; omega], by rw [show 20 * (q + 1) + 20 = b + 20 from by have := HBB.out; omega]; go_num, by have := HBB.out; omega, H1, HB1⟩
      case measure => have := HBB.out; have := HA.out; simp [intOf]; omega
    · have hlt2 : ¬ (b : Int) ≤ (N : Int) := by omega
      have haN : a ≤ N := by omega
      have HI1 := Lib.hid (HIN.out a N k _ H.out haN (Nat.le_refl _))
      clear ha hb hq
      go_wp2_with fail
      refine HI1.out.mono ?_
      rintro e w1 ⟨rfl, k1, s1, m1⟩
      have H1 := Lib.hid s1
      have hl := (show UnF N f k1 ∧ (N ≤ 20 → SdF k1 0 N) ∧ (20 < N → SdF k1 0 20 ∧ SdF k1 20 N) from by
        have e1 := HA.out; have e2 := HBB.out
        rw [e1] at m1
        exact HB.out.last (by omega) (by omega) (by omega) hN m1)
      have HL := Lib.hid hl
      clear s1 m1 hl H HB HI1 hlt hlt2 haN HIN HA HBB
      go_wp2
      go_loopw [6] (fun s6 wr => ∃ (bs : Int) (k : Nat → Dm), s6 = .int .i64 bs ∧ Hid (SoAt w0 wr base g N cap k) ∧ Hid (UnF N f k) ∧ ((bs = 20 ∧ Hid ((N ≤ 20 → SdF k 0 N) ∧ (20 < N → SdF k 0 20 ∧ SdF k 20 N))) ∨ (bs = 40 ∧ Hid (SdF k 0 N)))) (fun s6 _ => 60 - (intOf s6).toNat)
      case atStart => exact ⟨20, k1, rfl, H1, HL.out.1, .inl ⟨rfl, HL.out.2⟩⟩
      case round =>
        clear H1 HL
        obtain ⟨bs, k, rfl, H, HU, (⟨rfl, HD⟩ | ⟨rfl, HD⟩)⟩ := hrel
        · by_cases h20 : 20 < N
          · skip
            have hlt' : (20 : Int) < (N : Int) := by omega
            have HD1 := Lib.hid (HD.out.2 h20)
            clear HD
            go_wp2
            go_loopw [7, 8] (fun s7 s8 wr => ∃ (k : Nat → Dm), Hid (SoAt w0 wr base g N cap k) ∧ Hid (UnF N f k) ∧ ((s7 = .int .i64 0 ∧ s8 = .int .i64 40 ∧ Hid (SdF k 0 20 ∧ SdF k 20 N)) ∨ (s7 = .int .i64 40 ∧ s8 = .int .i64 80 ∧ N = 40 ∧ Hid (SdF k 0 N)))) (fun s7 _ _ => 80 - (intOf s7).toNat)
            case atStart => exact ⟨k, H, HU, .inl ⟨rfl, rfl, HD1⟩⟩
            case round =>
              clear H HU HD1
              obtain ⟨k, H, HU, (⟨rfl, rfl, HD⟩ | ⟨rfl, rfl, hN4, HD⟩)⟩ := hrel
              · by_cases h40 : N = 40
                · have hle : (40 : Int) ≤ (N : Int) := by omega
                  have HM := Lib.hid (HSY.out 40 k _ H.out (by omega) (by omega) HD.out.1 (by have := HD.out.2; rwa [h40] at this))
                  have HN4 := Lib.hid h40
                  clear h40
                  go_wp2_with fail
                  refine HM.out.mono ?_
                  rintro e w2 ⟨rfl, k2, s2, m2⟩
                  have H2 := Lib.hid s2
                  have HU2 := Lib.hid (HU.out.step m2 (by have := HN4.out; omega))
                  have HS2 := Lib.hid (show SdF k2 0 N from by have h := m2.sd; have e := HN4.out; intro i j i1 i2 i3; exact h i j i1 i2 (by omega))
                  clear s2 m2 H HU HD HM
                  go_wp2
                  go_roundw
                  case rel => exact ⟨k2, H2, HU2, .inr ⟨rfl, rfl, HN4.out, HS2⟩⟩
                  case measure => simp [intOf]
                · have hle : ¬ (40 : Int) ≤ (N : Int) := by omega
                  have HM := Lib.hid (HSY.out N k _ H.out (by omega) (Nat.le_refl _) HD.out.1 HD.out.2)
                  clear h40
                  go_wp2_with fail
                  refine HM.out.mono ?_
                  rintro e w2 ⟨rfl, k2, s2, m2⟩
                  have H2 := Lib.hid s2
                  have HU2 := Lib.hid (HU.out.step m2 (Nat.le_refl _))
                  have HS2 := Lib.hid m2.sd
                  clear s2 m2 H HU HD HM
                  go_wp2
                  go_roundw
                  case rel => exact ⟨40, k2, rfl, H2, HU2, .inr ⟨rfl, HS2⟩⟩
                  case measure => simp [intOf]
              · have hle : ¬ (80 : Int) ≤ (N : Int) := by omega
                have hle2 : ¬ (60 : Int) < (N : Int) := by omega
                clear hN4
                go_wp2
                go_roundw
                case rel => exact ⟨40, k, rfl, H, HU, .inr ⟨rfl, HD⟩⟩
                case measure => simp [intOf]
          · skip
            have hlt' : ¬ (20 : Int) < (N : Int) := by omega
            have HF := Lib.hid (HU.out.mg (HD.out.1 (by omega)))
            clear h20 HD HU
            go_wp2
            go_end0
            exact ⟨rfl, k, H.out, HF.out⟩
        · skip
          have hlt' : ¬ (40 : Int) < (N : Int) := by omega
          have HF := Lib.hid (HU.out.mg HD.out)
          clear HD HU
          go_wp2
          go_end0
          exact ⟨rfl, k, H.out, HF.out⟩
end Go.Proofs.Ytbbodgeoenjdkaa
