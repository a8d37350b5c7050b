/-
  slices.SortStableFunc of demands; SortDemands of the program and of the model.
  slices.Clone of demands; slices.SortStableFunc of at most 40 demands.
  slices.Clone of demands; SortDemands of the program.
  SortDemands of the model.
  Chapter 16: the draws of its laws.
  Chapter 16: what its laws say.
  Chapter 16: how often a demand stands in its table. No program is named here.
  Chapter 16: planning of sorted demands. No program is named here.
  Chapter 16: sorted demands planned; structs of its laws compared as they stand.
-/
import Derived.Test.YtbbodgeoenjdkaaSm6
import Derived.Test.YtbbodgeoenjdkaaSm7
import Derived.Test.YtbbodgeoenjdkaaPl1
import Derived.Test.YtbbodgeoenjdkaaPl9
import Derived.Test.YtbbodgeoenjdkaaPlE
import Derived.Test.YtbbodgeoenjdkaaDrawA
import Derived.Test.YtbbodgeoenjdkaaPl0
import Derived.Test.YtbbodgeoenjdkaaFourA
namespace Go.Proofs.Ytbbodgeoenjdkaa
section
open Go.RowKit

set_option maxRecDepth 100000 in
theorem symMerge_any (w0 : World) (base g N cap : Nat) (hN : N ≤ 1048576) : ∀ (D a m b : Nat) (f : Nat → Dm) (w : World), b - a ≤ D → a < m → m < b → b ≤ N → SdF f a m → SdF f m b → SoAt w0 w base g N cap f →
    Calls Try.prog 87 #[.slice (some ⟨g, 0, none⟩) N cap, .int .i64 (a : Int), .int .i64 (m : Int), .int .i64 (b : Int), .func (.func 57) #[] #[]] w fun e w' => e = .returned (.tuple #[]) ∧ ∃ k, SoAt w0 w' base g N cap k ∧ MgF N f k a b
  | 0, a, m, b, _, _, hD, h1, h2, _, _, _, _ => absurd hD (by omega)
  | D + 1, a, m, b, f, w, hD, h1, h2, h3, hs1, hs2, h => by
    by_cases e1 : m = a + 1
    · subst e1
      exact merge_one w0 w base g N cap f h hN a b h2 h3 hs2
    · by_cases e2 : b = m + 1
      · subst e2
        exact merge_last w0 w base g N cap f h hN a m (by omega) h3 hs1
      · have ih := fun (a' m' b' : Nat) (f' : Nat → Dm) (w' : World) (hd : b' - a' < b - a) => symMerge_any w0 base g N cap hN D a' m' b' f' w' (by omega)
        by_cases e3 : (a + b) / 2 < m
        · exact merge_up w0 w base g N cap f h hN a m b (by omega) (by omega) h3 hs1 hs2 (b - a) rfl ih e3
        · exact merge_dn w0 w base g N cap f h hN a m b (by omega) (by omega) h3 hs1 hs2 (b - a) rfl ih (by omega)
/-! ### blocks of twenty, then merges -/
structure UnF (N : Nat) (f k : Nat → Dm) : Prop where
  out : ∀ x, N ≤ x → k x = f x
  sm : SmF N k f
  inn : ∀ x, x < N → ∃ y, y < N ∧ k x = f y
theorem UnF.refl (N : Nat) (f : Nat → Dm) : UnF N f f := ⟨fun _ _ => rfl, SmF.refl _ _, fun x h => ⟨x, h, rfl⟩⟩
theorem UnF.step {N a b : Nat} {f k k' : Nat → Dm} (h : UnF N f k) (m : MgF N k k' a b) (hb : b ≤ N) : UnF N f k' := by
  refine ⟨fun x hx => (m.out x (by omega)).trans (h.out x hx), m.sm.trans h.sm, fun x hx => ?_⟩
  by_cases hi : a ≤ x ∧ x < b
  · obtain ⟨y, y1, y2, e⟩ := m.inn x hi.1 hi.2
    obtain ⟨z, z1, e2⟩ := h.inn y (by omega)
    exact ⟨z, z1, e.trans e2⟩
  · rw [m.out x (by omega)]
    exact h.inn x hx
theorem UnF.mg {N : Nat} {f k : Nat → Dm} (h : UnF N f k) (hs : SdF k 0 N) : MgF N f k 0 N :=
  ⟨fun x hx => h.out x (by omega), hs, h.sm, fun x _ h2 => by obtain ⟨y, y1, e⟩ := h.inn x h2; exact ⟨y, Nat.zero_le _, y1, e⟩⟩
/-- q blocks of twenty are sorted. -/
structure BkF (N : Nat) (f k : Nat → Dm) (q : Nat) : Prop where
  un : UnF N f k
  s0 : 1 ≤ q → SdF k 0 20
  s1 : 2 ≤ q → SdF k 20 40
theorem BkF.next {N q : Nat} {f k k' : Nat → Dm} (h : BkF N f k q) (hq : q ≤ 1) (m : MgF N k k' (20 * q) (20 * q + 20)) (hN : 20 * q + 20 ≤ N) : BkF N f k' (q + 1) := by
  refine ⟨h.un.step m hN, fun _ => ?_, fun h2 => ?_⟩
  · by_cases e : q = 0
    · subst e; exact m.sd
    · have h0 := h.s0 (by omega)
      intro i j i1 i2 i3
      rw [m.out i (by omega), m.out j (by omega)]
      exact h0 i j i1 i2 i3
  · have e : q = 1 := by omega
    subst e; exact m.sd
/-- Where the last block is sorted too: the first one, and all behind it. -/
theorem BkF.last {N q : Nat} {f k k' : Nat → Dm} (h : BkF N f k q) (hq : q ≤ 2) (h1 : 20 * q ≤ N) (h2 : N < 20 * q + 20) (hN : N ≤ 40) (m : MgF N k k' (20 * q) N) : UnF N f k' ∧ (N ≤ 20 → SdF k' 0 N) ∧ (20 < N → SdF k' 0 20 ∧ SdF k' 20 N) := by
  refine ⟨h.un.step m (Nat.le_refl _), fun h3 => ?_, fun h3 => ⟨?_, ?_⟩⟩
  · by_cases e : q = 0
    · subst e; exact m.sd
    · have h0 := h.s0 (by omega)
      intro i j i1 i2 i3
      rw [m.out i (by omega), m.out j (by omega)]
      exact h0 i j i1 i2 (by omega)
  · have h0 := h.s0 (by omega)
    intro i j i1 i2 i3
    rw [m.out i (by omega), m.out j (by omega)]
    exact h0 i j i1 i2 i3
  · by_cases e : q = 1
    · subst e; exact m.sd
    · have h0 := h.s1 (by omega)
      intro i j i1 i2 i3
      rw [m.out i (by omega), m.out j (by omega)]
      exact h0 i j i1 i2 (by omega)
set_option maxRecDepth 100000 in
set_option maxHeartbeats 4000000 in
set_option linter.unusedSimpArgs false in
/-- Rows of at most 40 entries: at most two blocks and one merge. -/
theorem stable_any (w0 w : World) (base g N cap : Nat) (f : Nat → Dm) (h : SoAt w0 w base g N cap f) (hN : N ≤ 40) :
    Calls Try.prog 81 #[.slice (some ⟨g, 0, none⟩) N cap, .int .i64 (N : Int), .func (.func 57) #[] #[]] w fun e w' => e = .returned (.tuple #[]) ∧ ∃ k, SoAt w0 w' base g N cap k ∧ MgF N f k 0 N := by
  have H := Lib.hid h; clear h
  have HIN := Lib.hid (fun (a b : Nat) (k : Nat → Dm) W (hW : SoAt w0 W base g N cap k) (h1 : a ≤ b) (h2 : b ≤ N) => insertion_any w0 W base g N cap k hW (by omega) a b h1 h2)
  have HSY := Lib.hid (fun (b : Nat) (k : Nat → Dm) W (hW : SoAt w0 W base g N cap k) (h1 : 20 < b) (h2 : b ≤ N) (s1 : SdF k 0 20) (s2 : SdF k 20 b) => (symMerge_any w0 base g N cap (by omega) b 0 20 b k W (by omega) (by omega) h1 h2 s1 s2 hW : Calls Try.prog 87 #[.slice (some ⟨g, 0, none⟩) N cap, .int .i64 0, .int .i64 20, .int .i64 (b : Int), .func (.func 57) #[] #[]] W fun e w' => e = .returned (.tuple #[]) ∧ ∃ k', SoAt w0 w' base g N cap k' ∧ MgF N k k' 0 b))
  go_enter Try.func81, Try.ntmps81
  go_wp2
  go_loopw [7, 8] (fun s7 s8 wr => ∃ (q : Nat) (k : Nat → Dm), s7 = .int .i64 ((20 * q : Nat) : Int) ∧ s8 = .int .i64 ((20 * q + 20 : Nat) : Int) ∧ 20 * q ≤ N ∧ Hid (SoAt w0 wr base g N cap k) ∧ Hid (BkF N f k q)) (fun s7 _ _ => 60 - (intOf s7).toNat)
  case atStart => exact ⟨0, f, rfl, rfl, by omega, H.out, ⟨UnF.refl N f, fun h => absurd h (by omega), fun h => absurd h (by omega)⟩⟩
  case round =>
    clear H
    obtain ⟨q, k, rfl, rfl, hq, H, HB⟩ := hrel
    obtain ⟨a, ha⟩ : ∃ a, a = 20 * q := ⟨_, rfl⟩
    obtain ⟨b, hb⟩ : ∃ b, b = 20 * q + 20 := ⟨_, rfl⟩
    have eb : ((20 * q + 20 : Nat) : Int) = (b : Int) := by omega
    have ea : ((20 * q : Nat) : Int) = (a : Int) := by omega
    have HA := Lib.hid ha; have HBB := Lib.hid hb
    simp only [eb, ea]
    clear eb ea
    by_cases hlt : b ≤ N
    · have hlt2 : (b : Int) ≤ (N : Int) := by omega
      have HI1 := Lib.hid (HIN.out a b k _ H.out (by omega) hlt)
      have hb2 : b ≤ 40 := by omega
      clear ha hb hq
      go_wp2_with fail
      refine HI1.out.mono ?_
      rintro e w1 ⟨rfl, k1, s1, m1⟩
      have H1 := Lib.hid s1
      have HB1 := Lib.hid (show BkF N f k1 (q + 1) from by
        have e1 := HA.out; have e2 := HBB.out
        rw [e1, e2] at m1
        exact HB.out.next (by omega) m1 (by omega))
      clear s1 m1 H HB HI1
      go_wp2
      go_roundw
      case rel => exact ⟨q + 1, k1, by rw [show 20 * (q + 1) = b from by have := HBB.out; omega], by rw [show 20 * (q + 1) + 20 = b + 20 from by have := HBB.out; omega]; go_num, by have := HBB.out; omega, H1, HB1⟩
      case measure => have := HBB.out; have := HA.out; simp [intOf]; omega
    · have hlt2 : ¬ (b : Int) ≤ (N : Int) := by omega
      have haN : a ≤ N := by omega
      have HI1 := Lib.hid (HIN.out a N k _ H.out haN (Nat.le_refl _))
      clear ha hb hq
      go_wp2_with fail
      refine HI1.out.mono ?_
      rintro e w1 ⟨rfl, k1, s1, m1⟩
      have H1 := Lib.hid s1
      have hl := (show UnF N f k1 ∧ (N ≤ 20 → SdF k1 0 N) ∧ (20 < N → SdF k1 0 20 ∧ SdF k1 20 N) from by
        have e1 := HA.out; have e2 := HBB.out
        rw [e1] at m1
        exact HB.out.last (by omega) (by omega) (by omega) hN m1)
      have HL := Lib.hid hl
      clear s1 m1 hl H HB HI1 hlt hlt2 haN HIN HA HBB
      go_wp2
      go_loopw [6] (fun s6 wr => ∃ (bs : Int) (k : Nat → Dm), s6 = .int .i64 bs ∧ Hid (SoAt w0 wr base g N cap k) ∧ Hid (UnF N f k) ∧ ((bs = 20 ∧ Hid ((N ≤ 20 → SdF k 0 N) ∧ (20 < N → SdF k 0 20 ∧ SdF k 20 N))) ∨ (bs = 40 ∧ Hid (SdF k 0 N)))) (fun s6 _ => 60 - (intOf s6).toNat)
      case atStart => exact ⟨20, k1, rfl, H1, HL.out.1, .inl ⟨rfl, HL.out.2⟩⟩
      case round =>
        clear H1 HL
        obtain ⟨bs, k, rfl, H, HU, (⟨rfl, HD⟩ | ⟨rfl, HD⟩)⟩ := hrel
        · by_cases h20 : 20 < N
          · skip
            have hlt' : (20 : Int) < (N : Int) := by omega
            have HD1 := Lib.hid (HD.out.2 h20)
            clear HD
            go_wp2
            go_loopw [7, 8] (fun s7 s8 wr => ∃ (k : Nat → Dm), Hid (SoAt w0 wr base g N cap k) ∧ Hid (UnF N f k) ∧ ((s7 = .int .i64 0 ∧ s8 = .int .i64 40 ∧ Hid (SdF k 0 20 ∧ SdF k 20 N)) ∨ (s7 = .int .i64 40 ∧ s8 = .int .i64 80 ∧ N = 40 ∧ Hid (SdF k 0 N)))) (fun s7 _ _ => 80 - (intOf s7).toNat)
            case atStart => exact ⟨k, H, HU, .inl ⟨rfl, rfl, HD1⟩⟩
            case round =>
              clear H HU HD1
              obtain ⟨k, H, HU, (⟨rfl, rfl, HD⟩ | ⟨rfl, rfl, hN4, HD⟩)⟩ := hrel
              · by_cases h40 : N = 40
                · have hle : (40 : Int) ≤ (N : Int) := by omega
                  have HM := Lib.hid (HSY.out 40 k _ H.out (by omega) (by omega) HD.out.1 (by have := HD.out.2; rwa [h40] at this))
                  have HN4 := Lib.hid h40
                  clear h40
                  go_wp2_with fail
                  refine HM.out.mono ?_
                  rintro e w2 ⟨rfl, k2, s2, m2⟩
                  have H2 := Lib.hid s2
                  have HU2 := Lib.hid (HU.out.step m2 (by have := HN4.out; omega))
                  have HS2 := Lib.hid (show SdF k2 0 N from by have h := m2.sd; have e := HN4.out; intro i j i1 i2 i3; exact h i j i1 i2 (by omega))
                  clear s2 m2 H HU HD HM
                  go_wp2
                  go_roundw
                  case rel => exact ⟨k2, H2, HU2, .inr ⟨rfl, rfl, HN4.out, HS2⟩⟩
                  case measure => simp [intOf]
                · have hle : ¬ (40 : Int) ≤ (N : Int) := by omega
                  have HM := Lib.hid (HSY.out N k _ H.out (by omega) (Nat.le_refl _) HD.out.1 HD.out.2)
                  clear h40
                  go_wp2_with fail
                  refine HM.out.mono ?_
                  rintro e w2 ⟨rfl, k2, s2, m2⟩
                  have H2 := Lib.hid s2
                  have HU2 := Lib.hid (HU.out.step m2 (Nat.le_refl _))
                  have HS2 := Lib.hid m2.sd
                  clear s2 m2 H HU HD HM
                  go_wp2
                  go_roundw
                  case rel => exact ⟨40, k2, rfl, H2, HU2, .inr ⟨rfl, HS2⟩⟩
                  case measure => simp [intOf]
              · have hle : ¬ (80 : Int) ≤ (N : Int) := by omega
                have hle2 : ¬ (60 : Int) < (N : Int) := by omega
                clear hN4
                go_wp2
                go_roundw
                case rel => exact ⟨40, k, rfl, H, HU, .inr ⟨rfl, HD⟩⟩
                case measure => simp [intOf]
          · skip
            have hlt' : ¬ (20 : Int) < (N : Int) := by omega
            have HF := Lib.hid (HU.out.mg (HD.out.1 (by omega)))
            clear h20 HD HU
            go_wp2
            go_end0
            exact ⟨rfl, k, H.out, HF.out⟩
        · skip
          have hlt' : ¬ (40 : Int) < (N : Int) := by omega
          have HF := Lib.hid (HU.out.mg HD.out)
          clear HD HU
          go_wp2
          go_end0
          exact ⟨rfl, k, H.out, HF.out⟩
end

section
open Go.RowKit

set_option maxRecDepth 100000 in
/-- slices.SortStableFunc by the periods. -/
theorem sortStable_any (w0 w : World) (base g N cap : Nat) (f : Nat → Dm) (h : SoAt w0 w base g N cap f) (hN : N ≤ 40) :
    Calls Try.prog 56 #[.slice (some ⟨g, 0, none⟩) N cap, .func (.func 57) #[] #[]] w fun e w' => e = .returned (.tuple #[]) ∧ ∃ k, SoAt w0 w' base g N cap k ∧ MgF N f k 0 N := by
  have HS := Lib.hid (stable_any w0 w base g N cap f h hN)
  clear h
  go_enter Try.func56, Try.ntmps56
  go_wp2_with fail
  refine HS.out.mono ?_
  rintro e w1 ⟨rfl, k, s1, m1⟩
  have H1 := Lib.hid s1
  have HM := Lib.hid m1
  clear s1 m1 HS
  go_wp2
  go_end0
  exact ⟨rfl, k, H1.out, HM.out⟩
/-- What a sorted row of demands is. -/
theorem filter_sorted (r t : List Dm) (h : ∀ k : Int, r.filter (fun x => decide (x.every = k)) = t.filter fun x => decide (x.every = k)) : plSorted r = plSorted t := by
  unfold plSorted
  rw [h 1, h 2, h 4, h 8]
theorem mg_sorted {t : List Dm} {k : Nat → Dm} (hx : ∀ x ∈ t, isPow x.every = true) (m : MgF t.length (fun i => dmOf t i) k 0 t.length) : mkF k t.length = plSorted t := by
  have e : mkF (fun i => dmOf t i) t.length = t := mkF_of t Dm.zero
  have hs := m.sm
  unfold SmF at hs
  rw [e] at hs
  rw [← filter_sorted _ _ hs]
  refine sorted_is (mkF k t.length) (fun x hm => ?_) ?_
  · obtain ⟨i, hi, rfl⟩ := List.mem_map.1 hm
    obtain ⟨y, -, hy, ey⟩ := m.inn i (Nat.zero_le _) (List.mem_range.1 hi)
    rw [ey]
    show isPow (dmOf t y).every = true
    rw [dmOf_get hy]
    exact hx _ (List.getElem_mem hy)
  · rw [List.pairwise_iff_getElem]
    intro i j hi hj hij
    rw [mkF_len] at hi hj
    rw [mkF_get _ hi, mkF_get _ hj]
    exact m.sd i j (Nat.zero_le _) (by omega) hj
end

section
open Go.RowKit

section
variable {P : Program} {E T : Nat} (w : World) {ops : Array Oper} {rest : List Oper} {o : Oper} {a : Act} {Q : Exit → Act → World → Prop} {K : Act → World → Prop}
theorem app_dms (s x : Operand)
    (ho : o.op = .call { callee := .builtin .append, args := #[s, x], argTypes := #[T, T] })
    (base : Nat) (ht : P.underlying T = some (.slice E)) (hi : InfoDm P E)
    (v : Value) (t : List Dm) (hs : a.eval s = v) (hown : OwnDm E w base v t) (b off n : Nat) (y : List Dm) (c : Nat) (hx : a.eval x = .slice (some ⟨b, off, none⟩) n c) (hc : RdDm w (some ⟨b, off, none⟩) n y)
    (hlen : t.length + n ≤ 1073741824) (hbase : base ≤ w.heap.size)
    (h : ∀ v' w', OwnDm E w' base v' (t ++ y) → w.grownBy w' v.ownBlock → K (a.put o.dst v') w') : o.wp P a w K Q := by
  obtain ⟨i0, hi, hz0, hz1, hz2⟩ := info_parts_dm hi
  have hl := hc.len
  subst hl
  refine wp_append_own w s x T ho base E i0 (dmVal Dm.zero) 3 24 ht hi hz0 hz1 hz2 (by rw [cellsDm_zero]; rfl) (by decide) v t.length (t.flatMap dmCells) hs hown ⟨b, off, none⟩ y.length c (y.flatMap dmCells) hx (flatDm_len y) ?_ ?_ (by unfold maxLen; omega) (by omega) hbase ?_
  · intro j u hj
    have hjl := (List.getElem?_eq_some_iff.1 hj).1
    rw [flatDm_len] at hjl
    obtain ⟨i, z, rfl, hz⟩ : ∃ i z, j = i * 3 + z ∧ z < 3 := ⟨j / 3, j % 3, by omega, by omega⟩
    have hil : i < y.length := by omega
    rw [flatDm_get y i z hil hz] at hj
    obtain ⟨b', off', e, hat⟩ := hc.here (by omega)
    cases e
    have hin := hat i hil
    have ha : (⟨b, off, none⟩ : Addr).add (i * 3 + z) = ⟨b, off + (i * 3 + z), none⟩ := by simp [Addr.add]
    rw [ha]
    match z, hz with
    | 0, _ => simp [dmCells] at hj; subst hj; have := hin.c0; rwa [show off + (i * 3 + 0) = off + i * 3 from by omega]
    | 1, _ => simp [dmCells] at hj; subst hj; have := hin.c1; rwa [show off + (i * 3 + 1) = off + i * 3 + 1 from by omega]
    | 2, _ => simp [dmCells] at hj; subst hj; have := hin.c2; rwa [show off + (i * 3 + 2) = off + i * 3 + 2 from by omega]
  · intro u hu
    obtain ⟨d, -, hd⟩ := List.mem_flatMap.1 hu
    simp [dmCells] at hd
    rcases hd with rfl | rfl | rfl <;> rfl
  · intro v' w' h1 h2 _
    refine h v' w' ?_ h2
    unfold OwnDm
    rw [List.length_append, List.flatMap_append]
    simpa using h1
theorem append_dms (hgd : o.guard = none) (s x : Operand)
    (ho : o.op = .call { callee := .builtin .append, args := #[s, x], argTypes := #[T, T] })
    (base : Nat) (ht : P.underlying T = some (.slice E)) (hi : InfoDm P E)
    (v : Value) (t : List Dm) (hs : a.eval s = v) (hown : OwnDm E w base v t) (b off n : Nat) (y : List Dm) (c : Nat) (hx : a.eval x = .slice (some ⟨b, off, none⟩) n c) (hc : RdDm w (some ⟨b, off, none⟩) n y)
    (hlen : t.length + n ≤ 1073741824) (hbase : base ≤ w.heap.size)
    (h : ∀ v' w', OwnDm E w' base v' (t ++ y) → Below base w w' → wpList P ops Q rest (a.put o.dst v') w') : wpList P ops Q (o :: rest) a w :=
  wpList_plain hgd fun _ hK => app_dms w s x ho base ht hi v t hs hown b off n y c hx hc hlen hbase fun v' w' h1 h2 => hK _ _ (h v' w' h1 ((Below.refl _ _).grown h2 hbase fun k hk => (hown.block k hk).1))
end
theorem info_dmP : (Try.prog.info? 38).map (fun i => (i.zero, i.size, i.bytes)) = some (some (dmVal Dm.zero), 3, 24) := by kernel_rfl
set_option maxRecDepth 100000 in
theorem cloneDm_any (b off n cap : Nat) (t : List Dm) (w : World) (hr : RdDm w (some ⟨b, off, none⟩) n t) (hn : n ≤ 1048576) :
    Calls Try.prog 55 #[.slice (some ⟨b, off, none⟩) n cap] w (MakesDm 38 w t) := by
  have HR := Lib.hid hr; clear hr
  have hrun : (Sem.run Try.prog (binOp BinOp.eql 24 (Value.slice (some ⟨b, off, none⟩) n cap) (Value.slice none 0 0)) w) = .ok (.bool false) w := by kernel_rfl
  go_enter Try.func55, Try.ntmps55
  go_wp2_with (at_builtin; refine append_dms _ rfl (.tmp 5) (.tmp 6) rfl w.heap.size Try.underlying24 info_dmP _ [] rfl (OwnDm.of_alloc_nil (Nat.le_refl _)) _ _ _ t _ rfl (HR.out.below ((Below.refl _ _).alloc (Nat.le_refl _) _)) (by simp; omega) (by simp) ?_; intro v1 w1 o1 b1)
  go_ret
  exact ⟨_, rfl, o1, ((Below.refl _ _).alloc (Nat.le_refl _) _).trans b1⟩
set_option maxRecDepth 100000 in
theorem cloneDm_nil (cap : Nat) (w : World) (hc : cap = 0) :
    Calls Try.prog 55 #[.slice none 0 cap] w (MakesDm 38 w []) := by
  subst hc
  have hrun : (Sem.run Try.prog (binOp BinOp.eql 24 (Value.slice none 0 0) (Value.slice none 0 0)) w) = .ok (.bool true) w := by kernel_rfl
  go_enter Try.func55, Try.ntmps55
  go_wp2
  go_ret
  exact ⟨_, rfl, OwnDm.nil_, Below.refl _ _⟩
theorem insertion_nil (w : World) (c : Value) : Calls Try.prog 86 #[.slice none 0 0, .int .i64 0, .int .i64 0, c] w fun e w' => e = .returned (.tuple #[]) ∧ w = w' := by
  go_enter Try.func86, Try.ntmps86
  go_wp2
  go_loop [8] (fun s8 => s8 = .int .i64 1) (fun _ => 0)
  case atStart => exact rfl
  case round =>
    obtain rfl := hrel
    go_wp2
    go_end0
    exact ⟨rfl, rfl⟩
theorem stable_nil (w : World) (c : Value) : Calls Try.prog 81 #[.slice none 0 0, .int .i64 0, c] w fun e w' => e = .returned (.tuple #[]) ∧ w = w' := by
  have HI := Lib.hid (insertion_nil w c)
  go_enter Try.func81, Try.ntmps81
  go_wp2
  go_loop [7, 8] (fun s7 s8 => s7 = .int .i64 0 ∧ s8 = .int .i64 20) (fun _ _ => 0)
  case atStart => exact ⟨rfl, rfl⟩
  case round =>
    obtain ⟨rfl, rfl⟩ := hrel
    go_wp2_with fail
    refine HI.out.mono ?_
    rintro e w1 ⟨rfl, rfl⟩
    go_wp2
    go_loop [6] (fun s6 => s6 = .int .i64 20) (fun _ => 0)
    case atStart => exact rfl
    case round =>
      obtain rfl := hrel
      go_wp2
      go_end0
      exact ⟨rfl, rfl⟩
theorem sort_nil (w : World) (c : Value) : Calls Try.prog 56 #[.slice none 0 0, c] w fun e w' => e = .returned (.tuple #[]) ∧ w = w' := by
  have HI := Lib.hid (stable_nil w c)
  go_enter Try.func56, Try.ntmps56
  go_wp2_with fail
  refine HI.out.mono ?_
  rintro e w1 ⟨rfl, rfl⟩
  go_wp2
  go_end0
  exact ⟨rfl, rfl⟩
theorem dms_pow {t : List Dm} (h : areDms t = true) : ∀ x ∈ t, isPow x.every = true := fun x hx => (isDm_iff.1 ((areDms_iff.1 h).2 x hx)).2.1
/-- impl.SortDemands. -/
theorem sortDemandsI_any (ao : Option Addr) (n cap : Nat) (t : List Dm) (w : World) (hr : RdDm w ao n t) (hn : n ≤ 1048576) (hform : (ao = none ∧ cap = 0) ∨ ∃ g : Nat, ao = some ⟨g, 0, none⟩) :
    Calls Try.prog 18 #[.slice ao n cap] w (MakesDm2 38 w (sortDemands t).1 (sortDemands t).2) := by
  have HA := Lib.hid (areDmsI_any ao n cap t w hr (by omega))
  have HR := Lib.hid hr
  clear hr
  cases hd : areDms t
  · have HE := Lib.hid (show sortDemands t = ([], 1) from by unfold sortDemands; rw [if_pos hd])
    rw [hd] at HA
    clear hd
    go_enter Try.func18, Try.ntmps18
    go_wp2_with fail
    refine HA.out.mono ?_
    rintro e w1 ⟨rfl, b1⟩
    go_wp2
    go_ret2
    rw [HE.out]
    exact ⟨.slice none 0 0, rfl, OwnDm.nil_, b1⟩
  · have HE := Lib.hid (show sortDemands t = (plSorted t, 0) from by unfold sortDemands; rw [if_neg (by rw [hd]; decide)])
    have hlen := areDms_len hd
    have HP := Lib.hid (dms_pow hd)
    rw [hd] at HA
    clear hd
    have HCL := Lib.hid (fun W (hW : RdDm W ao n t) => (by
      rcases hform with ⟨rfl, hcap⟩ | ⟨g, rfl⟩
      · have hn0 : n = 0 := by
          rcases Nat.eq_zero_or_pos n with h | h
          · exact h
          · obtain ⟨_, _, e, _⟩ := hW.here h; cases e
        subst hn0
        have ht : t = [] := List.length_eq_zero_iff.1 hW.len
        subst ht
        exact cloneDm_nil cap W hcap
      · exact cloneDm_any g 0 n cap t W hW hn : Calls Try.prog 55 #[.slice ao n cap] W (MakesDm 38 W t)))
    go_enter Try.func18, Try.ntmps18
    go_wp2_with fail
    refine HA.out.mono ?_
    rintro e w1 ⟨rfl, b1⟩
    have HB1 := Lib.hid b1
    have HC1 := Lib.hid (HCL.out w1 (HR.out.below b1))
    clear b1 HA HR HCL
    go_wp2_with fail
    refine HC1.out.mono ?_
    rintro e w2 ⟨v, rfl, o2, b2⟩
    have HB2 := Lib.hid (below_two HB1.out b2)
    obtain ⟨ao2, cap2, rfl, -, -, -, hv⟩ := o2.form
    rcases hv with hv | ⟨g, rfl, hg1, hg2⟩
    · rw [hv] at o2 ⊢
      injection hv with _ hv2 _
      have ht : t = [] := List.length_eq_zero_iff.1 hv2
      subst ht
      have HS := Lib.hid (sort_nil w2 (.func (.func 57) #[] #[]))
      clear HC1 o2 b2
      go_wp2_with fail
      refine HS.out.mono ?_
      rintro e w3 ⟨rfl, rfl⟩
      go_wp2
      go_ret2
      rw [HE.out]
      exact ⟨.slice none 0 0, rfl, OwnDm.nil_, HB2.out⟩
    · have hso : SoAt w2 w2 w1.heap.size g t.length cap2 (fun i => dmOf t i) := ⟨by rw [show mkF (fun i => dmOf t i) t.length = t from mkF_of t Dm.zero]; exact o2, ⟨rfl, rfl, rfl, Nat.le_refl _, fun _ _ _ => rfl⟩⟩
      have HS := Lib.hid (sortStable_any w2 w2 w1.heap.size g t.length cap2 _ hso hlen)
      have HG := Lib.hid (show w.heap.size ≤ g from Nat.le_trans HB1.out.size hg1)
      clear hso o2 b2 HC1
      go_wp2_with fail
      refine HS.out.mono ?_
      rintro e w3 ⟨rfl, k, s3, m3⟩
      have hm := mg_sorted HP.out m3
      have ho := s3.own
      rw [hm] at ho
      have hsl : (plSorted t).length = t.length := by rw [← hm, mkF_len]
      have HO := Lib.hid (show OwnDm 38 w3 w.heap.size (.slice (some ⟨g, 0, none⟩) t.length cap2) (plSorted t) from ho.more HB1.out.size)
      have HBF := Lib.hid (HB2.out.grown s3.kp HB2.out.size (fun q hq => by cases hq; exact HG.out))
      clear s3 m3 hm ho HS
      go_wp2
      go_ret2
      rw [HE.out]
      exact ⟨_, rfl, HO.out, HBF.out⟩
end

section
open Go.RowKit

def evF (t : List Dm) (e : Int) : List Dm := t.filter fun x => decide (x.every = e)
def preS (t : List Dm) (e : Int) : List Dm := if e = 1 then [] else if e = 2 then evF t 1 else if e = 4 then evF t 1 ++ evF t 2 else if e = 8 then evF t 1 ++ (evF t 2 ++ evF t 4) else plSorted t
theorem preS_next {t : List Dm} {e : Int} (h : e = 1 ∨ e = 2 ∨ e = 4 ∨ e = 8) : preS t e ++ evF t e = preS t (2 * e) := by
  rcases h with rfl | rfl | rfl | rfl <;> simp [preS, plSorted, evF]
theorem evF_next {t : List Dm} {e : Int} {i : Nat} (h : i < t.length) : evF (t.take (i + 1)) e = evF (t.take i) e ++ if (dmOf t i).every = e then [dmOf t i] else [] := by
  unfold evF
  rw [List.take_add_one, List.getElem?_eq_getElem h, List.filter_append, dmOf_get h]
  by_cases hc : (t[i]).every = e <;> simp [hc]
theorem evF_len (t : List Dm) (e : Int) : (evF t e).length ≤ t.length := List.length_filter_le ..
theorem preS_len (t : List Dm) {e : Int} (h : e = 1 ∨ e = 2 ∨ e = 4 ∨ e = 8) : (preS t e).length ≤ 3 * t.length := by
  have h1 := evF_len t 1; have h2 := evF_len t 2; have h4 := evF_len t 4
  rcases h with rfl | rfl | rfl | rfl <;> simp [preS] <;> omega
set_option maxRecDepth 100000 in
set_option maxHeartbeats 4000000 in
set_option linter.unusedSimpArgs false in
set_option linter.unusedVariables false in
/-- spec.SortDemands. -/
theorem sortDemandsS_any (ao : Option Addr) (n cap : Nat) (t : List Dm) (w : World) (hr : RdDm w ao n t) (hn : n ≤ 1048576) :
    Calls Try.prog 19 #[.slice ao n cap] w (MakesDm2 38 w (sortDemands t).1 (sortDemands t).2) := by
  have HA := Lib.hid (areDmsS_any ao n cap t w hr (by omega))
  have HR := Lib.hid hr
  have hl := hr.len
  clear hr
  cases hd : areDms t
  · have HE := Lib.hid (show sortDemands t = ([], 1) from by unfold sortDemands; rw [if_pos hd])
    rw [hd] at HA
    clear hd hl
    go_enter Try.func19, Try.ntmps19
    go_wp2_with fail
    refine HA.out.mono ?_
    rintro e w1 ⟨rfl, b1⟩
    go_wp2
    go_ret2
    rw [HE.out]
    exact ⟨.slice none 0 0, rfl, OwnDm.nil_, b1⟩
  · have HE := Lib.hid (show sortDemands t = (plSorted t, 0) from by unfold sortDemands; rw [if_neg (by rw [hd]; decide)])
    have hlen := areDms_len hd
    have HL := Lib.hid hl
    rw [hd] at HA
    clear hd hl
    go_enter Try.func19, Try.ntmps19
    go_wp2_with fail
    refine HA.out.mono ?_
    rintro e w1 ⟨rfl, b1⟩
    have HB1 := Lib.hid b1
    have HR1 := Lib.hid (HR.out.below b1)
    clear b1 HA HR
    have hbl : Below w1.heap.size w1 (w1.alloc (.cells #[] 38)) := (Below.refl _ _).alloc (Nat.le_refl _) _
    have HO := Lib.hid (OwnDm.of_alloc_nil (E := 38) (w := w1) (base := w1.heap.size) (Nat.le_refl _))
    have HBL := Lib.hid hbl
    clear hbl
    go_wp2
    go_loopw [4, 5] (fun s4 s5 wr => ∃ (e : Int), s5 = .int .i64 e ∧ (e = 1 ∨ e = 2 ∨ e = 4 ∨ e = 8 ∨ e = 16) ∧ Hid (OwnDm 38 wr w1.heap.size s4 (preS t e)) ∧ Hid (Below w1.heap.size w1 wr)) (fun _ s5 _ => 20 - (intOf s5).toNat)
    case atStart => exact ⟨1, rfl, .inl rfl, HO.out, HBL.out⟩
    case round =>
      clear HO HBL
      obtain ⟨e, rfl, he, HO, HB⟩ := hrel
      by_cases h8 : e ≤ 8
      · have he4 : e = 1 ∨ e = 2 ∨ e = 4 ∨ e = 8 := by omega
        have HNX := Lib.hid (preS_next (t := t) he4)
        have HPL := Lib.hid (preS_len t he4)
        have HE4 := Lib.hid he4
        have he1 : 1 ≤ e := by omega
        clear he he4
        generalize preS t e = o at HO HNX HPL
        go_wp2
        go_loopw [4, 6] (fun s4 s6 wr => ∃ (i : Nat), s6 = .int .i64 (i : Int) ∧ i ≤ n ∧ Hid (OwnDm 38 wr w1.heap.size s4 (o ++ evF (t.take i) e)) ∧ Hid (Below w1.heap.size w1 wr)) (fun _ s6 _ => n - (intOf s6).toNat)
        case atStart => exact ⟨0, rfl, Nat.zero_le _, by rw [show evF (t.take 0) e = [] from rfl, List.append_nil]; exact HO.out, HB.out⟩
        case round =>
          clear HO HB
          obtain ⟨i, rfl, hi, HO, HB⟩ := hrel
          by_cases hlt : i < n
          · have HRW := Lib.hid (HR1.out.below HB.out)
            obtain ⟨b, off, rfl, hbw, hin⟩ := HRW.out.at hlt
            have hnx := evF_next (t := t) (e := e) (i := i) (by have := HL.out; omega)
            have hlo := evF_len (t.take i) e
            rw [List.length_take] at hlo
            have HLO := Lib.hid (show (o ++ evF (t.take i) e).length ≤ 1073741824 from by rw [List.length_append]; have := HPL.out; have := HL.out; omega)
            clear hlo
            generalize hx : dmOf t i = x at hin hnx
            clear hx
            obtain ⟨c0, c1, c2⟩ := hin
            obtain ⟨x0, x1, x2⟩ := x
            dsimp only at c0 c1 c2 hnx
            by_cases hev : x1 = e
            · rw [if_pos hev] at hnx
              have HNE := Lib.hid hnx
              have hdd : (x1 == e) = true := by simp [hev]
              clear hnx hev
              have hsz := HB.out.size
              go_wp2_with (at_builtin; (refine append_dm _ rfl _ _ rfl w1.heap.size Try.underlying24 info_dmP _ _ rfl (OwnDm.below HO.out ((Below.refl _ _).alloc (Nat.le_refl _) _)) _ _ _ _ rfl (DmBk.new (T := 38) (x := ⟨x0, x1, x2⟩) wr).in_ HLO.out (by simp; omega) ?_); intro v' w' hown hg2)
              have HBX := Lib.hid (HB.out.trans (((Below.refl w1.heap.size wr).alloc hsz (.cells #[.int .i64 x0, .int .i64 x1, .int .i64 x2] 38)).trans hg2))
              have HO2 := Lib.hid hown
              rw [List.append_assoc, ← HNE.out] at HO2
              clear hown hg2
              go_wp2
              go_roundw
              case rel => exact ⟨i + 1, by go_num, by omega, HO2.out, HBX.out⟩
              case measure => simp [intOf]; omega
            · rw [if_neg hev, List.append_nil] at hnx
              have HO2 := Lib.hid HO.out
              rw [← hnx] at HO2
              have hdd : (x1 == e) = false := by simp [hev]
              clear hnx hev HO
              go_wp2
              go_roundw
              case rel => exact ⟨i + 1, by go_num, by omega, HO2.out, HB.out⟩
              case measure => simp [intOf]; omega
          · have hin : i = n := by omega
            subst hin
            have HO2 := Lib.hid HO.out
            rw [show t.take i = t from List.take_of_length_le (by have := HL.out; omega), HNX.out] at HO2
            clear HO hlt
            have hw : wrap64 (2 * e) = 2 * e := by unfold wrap64; omega
            go_wp2
            go_roundw
            case rel => exact ⟨2 * e, rfl, by have := HE4.out; omega, HO2.out, HB.out⟩
            case measure => simp [intOf]; omega
      · have he16 : e = 16 := by omega
        subst he16
        have HO2 := Lib.hid (show OwnDm 38 wr w1.heap.size _ (plSorted t) from HO.out)
        have HBF := Lib.hid (below_two HB1.out HB.out)
        clear HO he h8
        go_wp2
        go_ret2
        rw [HE.out]
        exact ⟨_, rfl, HO2.out.more HB1.out.size, HBF.out⟩
theorem OwnDm.formA {E base n cap : Nat} {w : World} {ao : Option Addr} {t : List Dm} (h : OwnDm E w base (.slice ao n cap) t) : (ao = none ∧ cap = 0) ∨ ∃ g : Nat, ao = some ⟨g, 0, none⟩ := by
  obtain ⟨ao', cap', e, -, -, -, hv⟩ := h.form
  rcases hv with hv | ⟨g, h1, -⟩
  · injection hv with e1 e2 e3
    exact .inl ⟨e1, e3⟩
  · injection e with e1 e2 e3
    exact .inr ⟨g, e1.trans h1⟩
theorem sortDemands_small (t : List Dm) : (sortDemands t).1.length ≤ 1048576 := by
  unfold sortDemands
  split
  · simp
  · rename_i h
    have h1 := areDms_len (by simpa using h)
    have a := evF_len t 1; have b := evF_len t 2; have c := evF_len t 4; have d := evF_len t 8
    unfold evF at a b c d
    unfold plSorted
    simp only [List.length_append]
    omega
end

section
open Go.RowKit

/-- Drawn demands and rounds; and slots. -/
def DrawnD2 (w : World) (e : Ending) (w' : World) : Prop := ∃ v t R, e = .returned (.tuple #[v, .int .i64 R]) ∧ OwnDm 38 w' w.heap.size v t ∧ t.length ≤ 41 ∧ Below w.heap.size w w'
def DrawnD3 (w : World) (e : Ending) (w' : World) : Prop := ∃ v t R S, e = .returned (.tuple #[v, .int .i64 R, .int .i64 S]) ∧ OwnDm 38 w' w.heap.size v t ∧ t.length ≤ 41 ∧ Below w.heap.size w w'
set_option maxHeartbeats 1000000 in
theorem drawSlotsNeeded_any (ao : Option Addr) (n cap : Nat) (cs : List Int) (w : World) (hr : RdB w w.heap.size ao n cs) (hn : n ≤ 1048576) :
    Calls Try.prog 29 #[.slice ao n cap] w (DrawnD2 w) := by
  have HR := Lib.hid hr; clear hr
  go_enter Try.func29, Try.ntmps29
  go_wp2_with fail
  refine (from_any _ _ _ cs _ HR.out hn).mono ?_
  rintro e w1 ⟨p, rfl, hlo, hs1, hb1⟩
  have hp1 : p < w1.heap.size := hs1.lt
  have HS1 := Lib.hid hs1; have HB1 := Lib.hid hb1; clear hs1 hb1
  go_wp2_with fail
  refine (l16Draw_any p _ HS1.out).mono ?_
  rintro e w2 ⟨v, t, rfl, o2, hl, hs2, g2⟩
  have HO2 := Lib.hid o2; have HS2 := Lib.hid hs2; have HB2 := Lib.hid (HB1.out.grown g2 HB1.out.size (fun k hk => by cases hk; exact hlo)); clear o2 hs2 g2 HS1
  go_wp2_with fail
  refine (l16DrawRounds_any p _ HS2.out).mono ?_
  rintro e w3 ⟨R, rfl, hs3, g3⟩
  have HO3 := Lib.hid (HO2.out.old g3 hp1); have HB3 := Lib.hid (HB2.out.grown g3 HB2.out.size (fun k hk => by cases hk; exact hlo)); clear hs3 g3 HO2 HS2 HB2
  go_wp2_with fail
  go_ret2
  exact ⟨_, t, _, rfl, HO3.out.more HB1.out.size, hl, HB3.out⟩
set_option maxHeartbeats 1000000 in
theorem drawPlanDemands_any (ao : Option Addr) (n cap : Nat) (cs : List Int) (w : World) (hr : RdB w w.heap.size ao n cs) (hn : n ≤ 1048576) :
    Calls Try.prog 14 #[.slice ao n cap] w (DrawnD3 w) := by
  have HR := Lib.hid hr; clear hr
  go_enter Try.func14, Try.ntmps14
  go_wp2_with fail
  refine (from_any _ _ _ cs _ HR.out hn).mono ?_
  rintro e w1 ⟨p, rfl, hlo, hs1, hb1⟩
  have hp1 : p < w1.heap.size := hs1.lt
  have HS1 := Lib.hid hs1; have HB1 := Lib.hid hb1; clear hs1 hb1
  go_wp2_with fail
  refine (l16Draw_any p _ HS1.out).mono ?_
  rintro e w2 ⟨v, t, rfl, o2, hl, hs2, g2⟩
  have HO2 := Lib.hid o2; have HS2 := Lib.hid hs2; have HB2 := Lib.hid (HB1.out.grown g2 HB1.out.size (fun k hk => by cases hk; exact hlo)); clear o2 hs2 g2 HS1
  go_wp2_with fail
  refine (l16DrawRounds_any p _ HS2.out).mono ?_
  rintro e w3 ⟨R, rfl, hs3, g3⟩
  have HO3 := Lib.hid (HO2.out.old g3 hp1); have HS3 := Lib.hid hs3; have HB3 := Lib.hid (HB2.out.grown g3 HB2.out.size (fun k hk => by cases hk; exact hlo)); clear hs3 g3 HO2 HS2 HB2
  go_wp2_with fail
  refine (l16DrawSlots_any p _ HS3.out).mono ?_
  rintro e w4 ⟨S, rfl, hs4, g4⟩
  have HO4 := Lib.hid (HO3.out.old g4 hp1); have HB4 := Lib.hid (HB3.out.grown g4 HB3.out.size (fun k hk => by cases hk; exact hlo)); clear hs4 g4 HO3 HS3 HB3
  go_wp2_with fail
  go_ret3
  exact ⟨_, t, _, _, rfl, HO4.out.more HB1.out.size, hl, HB4.out⟩
end

section

theorem planCode_of {t : List Dm} {R S : Int} (h1 : areDms t = true) (h2 : isPow R = true) (h3 : 1 ≤ S) (h4 : S ≤ 16) : planCode t R S = 0 := by
  unfold planCode plFrame inRange
  simp [h1, h2, h3, h4]
theorem needed_law {t : List Dm} {R q : Int} (h : slotsNeeded t R = (q, 0)) : (planDemands t R q).2 = 0 ∧ (q ≠ 1 → (planDemands t R (q - 1)).2 = 4) ∧ (1 ≤ q ∧ q ≤ 16) := by
  have hc : planCode t R 16 = 0 := by
    refine Classical.byContradiction fun hc => ?_
    rw [slotsNeeded_bad hc] at h
    exact hc (congrArg Prod.snd h)
  have hk := okPl hc
  cases hl : plPlan tab0 R.toNat 16 0 t with
  | none => rw [slotsNeeded_none hc hl] at h; cases h
  | some l =>
    rw [slotsNeeded_some hc hl] at h
    cases h
    have h1 : 1 ≤ plMost l := (plMost_ge l 1).1
    have h2 : plMost l ≤ 16 := plMost_le l 1 16 (by omega) (fun b hb => (plPlan_slot _ _ _ hl b hb).2)
    refine ⟨?_, fun hne => ?_, h1, h2⟩
    · have hs := (plPlan_most (S := (plMost l).toNat) hl (by omega) (by omega)).2 (by omega)
      obtain ⟨l', hl'⟩ := Option.isSome_iff_exists.1 hs
      rw [planDemands_some (planCode_of hk.dm hk.R h1 h2) hl']
    · have hs : plPlan tab0 R.toNat (plMost l - 1).toNat 0 t = none := by
        cases h3 : plPlan tab0 R.toNat (plMost l - 1).toNat 0 t with
        | none => rfl
        | some l' =>
          have := (plPlan_most (S := (plMost l - 1).toNat) hl (by omega) (by omega)).1 (by rw [h3]; rfl)
          omega
      rw [planDemands_none (planCode_of hk.dm hk.R (by omega) (by omega)) hs]
end

section

def hitsN (e p R : Nat) : Nat := (List.range R).countP fun r => plHits e p r
theorem hitsN_pow : ∀ R ∈ [1, 2, 4, 8], ∀ e ∈ [1, 2, 4, 8], e ≤ R → ∀ p, p < e → hitsN e p R = R / e := by decide +kernel
def cntT (U : Tab) (R S : Nat) (v : Int) : Nat := ((List.range R).map fun r => ((List.range S).map (U r)).count v).sum
theorem count_one {f g : Nat → Int} {v : Int} {s : Nat} : ∀ S : Nat, s < S → (∀ k, k ≠ s → f k = g k) → g s ≠ v → ((List.range S).map f).count v = ((List.range S).map g).count v + if f s = v then 1 else 0
  | 0, h, _, _ => absurd h (by omega)
  | S + 1, h, hk, hg => by
    rw [List.range_succ, List.map_append, List.map_append, List.count_append, List.count_append]
    by_cases e : s = S
    · subst e
      have : (List.range s).map f = (List.range s).map g := List.map_congr_left fun k hm => hk k (by have := List.mem_range.1 hm; omega)
      rw [this]
      simp [List.count_cons, hg]
    · rw [count_one S (by omega) hk hg]
      have : f S = g S := hk S (fun x => e x.symm)
      simp only [List.map_cons, List.map_nil, this]
      omega
theorem sum_count {F A : Nat → Nat} {P : Nat → Bool} : ∀ R : Nat, (∀ r, r < R → F r = A r + if P r = true then 1 else 0) → ((List.range R).map F).sum = ((List.range R).map A).sum + (List.range R).countP P
  | 0, _ => rfl
  | R + 1, h => by
    rw [List.range_succ, List.map_append, List.map_append, List.sum_append, List.sum_append, List.countP_append, sum_count R (fun r hr => h r (by omega))]
    have := h R (by omega)
    simp only [List.map_cons, List.map_nil, List.sum_cons, List.sum_nil, List.countP_cons, List.countP_nil]
    omega
theorem cntT_zero {U : Tab} {R S : Nat} {v : Int} (h : ∀ r s, r < R → s < S → U r s ≠ v) : cntT U R S v = 0 := by
  unfold cntT
  rw [List.sum_eq_zero_iff_forall_eq_nat]
  intro x hx
  obtain ⟨r, hr, rfl⟩ := List.mem_map.1 hx
  rw [List.count_eq_zero]
  intro hm
  obtain ⟨s, hs, e⟩ := List.mem_map.1 hm
  exact h r s (List.mem_range.1 hr) (List.mem_range.1 hs) e
theorem cntT_put {T : Tab} {R S : Nat} {x : Dm} {b : Bk} {i v : Int} (h : plFits T R S x b = true) (hv : v ≠ -1) : cntT (plPut T R x b i) R S v = cntT T R S v + if v = i then hitsN x.every.toNat b.phase.toNat R else 0 := by
  obtain ⟨-, h1, h2, h3⟩ := plFits_phase h
  have hs : b.slot.toNat < S := by omega
  rw [plFree_iff] at h3
  have key : ∀ r, r < R → ((List.range S).map (plPut T R x b i r)).count v = ((List.range S).map (T r)).count v + if (decide (v = i) && plHits x.every.toNat b.phase.toNat r) = true then 1 else 0 := by
    intro r hr
    by_cases hh : plHits x.every.toNat b.phase.toNat r = true
    · have e1 : plPut T R x b i r b.slot.toNat = i := by unfold plPut plPutTo; rw [if_pos ⟨rfl, hh, hr⟩]
      rw [count_one (f := plPut T R x b i r) (g := T r) (s := b.slot.toNat) S hs (fun k hk => by unfold plPut plPutTo; rw [if_neg (fun h => hk h.1)]) (by rw [h3 r hr hh]; exact fun e => hv e.symm), e1, hh]
      by_cases e : v = i
      · simp [e]
      · have : ¬ i = v := fun h => e h.symm
        simp [e, this]
    · have e1 : plPut T R x b i r = T r := by funext k; unfold plPut plPutTo; rw [if_neg (fun h => hh h.2.1)]
      rw [e1]
      simp [hh]
  unfold cntT
  rw [sum_count (P := fun r => decide (v = i) && plHits x.every.toNat b.phase.toNat r) R key]
  by_cases e : v = i
  · simp [e, hitsN]
  · simp [e]
theorem plPut_lt {T : Tab} {R : Nat} {x : Dm} {b : Bk} {i : Nat} (h : ∀ r s, -1 ≤ T r s ∧ T r s < (i : Int)) (r s : Nat) : -1 ≤ plPut T R x b (i : Int) r s ∧ plPut T R x b (i : Int) r s < ((i + 1 : Nat) : Int) := by
  have := h r s
  unfold plPut plPutTo
  split <;> omega
theorem plTab_count {R S : Nat} (hR : isPow (R : Int) = true) : ∀ (t : List Dm) (T : Tab) (i : Nat) (bs : List Bk) (U : Tab), plTab T R S i t bs = some U → (∀ x ∈ t, isPow x.every = true) → (∀ r s, -1 ≤ T r s ∧ T r s < (i : Int)) →
    (∀ v : Int, v ≠ -1 → v < (i : Int) → cntT U R S v = cntT T R S v) ∧ (∀ j, (hj : j < t.length) → cntT U R S ((i + j : Nat) : Int) = R / (t[j]).every.toNat) ∧ ∀ r s, -1 ≤ U r s ∧ U r s < ((i + t.length : Nat) : Int)
  | [], T, i, [], U, h, _, hT => by
    simp only [plTab, Option.some.injEq] at h
    subst h
    exact ⟨fun _ _ _ => rfl, fun j hj => absurd hj (by simp), fun r s => by have := hT r s; simpa using this⟩
  | x :: t, T, i, b :: bs, U, h, hx, hT => by
    unfold plTab at h
    by_cases hf : plFits T R S x b = true
    · rw [if_pos hf] at h
      obtain ⟨h1, h2, h3⟩ := plTab_count hR t _ (i + 1) bs U h (fun y hy => hx y (List.mem_cons_of_mem _ hy)) (plPut_lt hT)
      refine ⟨fun v hv hlt => ?_, fun j hj => ?_, fun r s => ?_⟩
      · rw [h1 v hv (by omega), cntT_put hf hv, if_neg (by omega)]; omega
      · cases j with
        | zero =>
          rw [Nat.add_zero, h1 _ (by omega) (by omega), cntT_put hf (by omega), if_pos rfl, cntT_zero (fun r s _ _ => by have := hT r s; omega)]
          obtain ⟨a1, -, a2, -⟩ := plFits_phase hf
          have a3 := isPow_iff.1 (hx x (List.mem_cons_self ..))
          have a4 := isPow_iff.1 hR
          have := hitsN_pow R (by simp; omega) x.every.toNat (by simp; omega) (by omega) b.phase.toNat (by omega)
          simpa using this
        | succ j =>
          have := h2 j (by simpa using hj)
          rw [show i + (j + 1) = i + 1 + j from by omega]
          simpa using this
      · have := h3 r s
        simp only [List.length_cons]
        omega
    · rw [if_neg hf] at h; cases h
  | [], _, _, _ :: _, _, h, _, _ => by simp [plTab] at h
  | _ :: _, _, _, [], _, h, _, _ => by simp [plTab] at h

/-! ### counting by a list -/
def bump (xs : List Int) (k : Nat) : List Int := xs.set k (xs.getD k 0 + 1)
def cntL (n : Nat) (cs : List Int) : List Int := cs.foldl (fun xs c => bump xs (c + 1).toNat) (List.replicate (n + 1) 0)
theorem cntL_nil (n : Nat) : cntL n [] = List.replicate (n + 1) 0 := rfl
theorem cntL_snoc (n : Nat) (cs : List Int) (c : Int) : cntL n (cs ++ [c]) = bump (cntL n cs) (c + 1).toNat := by simp [cntL, List.foldl_append]
theorem bump_len (xs : List Int) (k : Nat) : (bump xs k).length = xs.length := by simp [bump]
theorem snoc_rec {P : List Int → Prop} (h0 : P []) (h1 : ∀ cs c, P cs → P (cs ++ [c])) (cs : List Int) : P cs := by
  have : ∀ l : List Int, P l.reverse := fun l => by
    induction l with
    | nil => exact h0
    | cons a r ih => rw [List.reverse_cons]; exact h1 _ _ ih
  have := this cs.reverse
  rwa [List.reverse_reverse] at this
theorem cntL_len (n : Nat) (cs : List Int) : (cntL n cs).length = n + 1 := by
  induction cs using snoc_rec with
  | h0 => simp [cntL_nil]
  | h1 cs c ih => rw [cntL_snoc, bump_len, ih]
theorem bump_get {xs : List Int} {k j : Nat} (hk : k < xs.length) : (bump xs k).getD j 0 = xs.getD j 0 + if j = k then 1 else 0 := by
  unfold bump
  simp only [List.getD_eq_getElem?_getD, List.getElem?_set]
  by_cases e : k = j
  · subst e; simp [hk]
  · have : ¬ j = k := fun h => e h.symm
    simp [e, this]
theorem cntL_get {n : Nat} {cs : List Int} : (∀ c ∈ cs, -1 ≤ c ∧ c < (n : Int)) → ∀ j, (cntL n cs).getD j 0 = (cs.count ((j : Int) - 1) : Nat) := by
  induction cs using snoc_rec with
  | h0 => intro _ j; rw [cntL_nil]; by_cases h : j < n + 1 <;> simp [List.getD_eq_getElem?_getD, h]
  | h1 cs c ih =>
    intro hc j
    have h1 := hc c (by simp)
    rw [cntL_snoc, bump_get (by rw [cntL_len]; omega), ih (fun d hd => hc d (by simp [hd])), List.count_append]
    by_cases e : j = (c + 1).toNat
    · have : c = (j : Int) - 1 := by omega
      rw [if_pos e, ← this]
      simp
    · have : ¬ c = (j : Int) - 1 := by omega
      rw [if_neg e]
      simp [this]
theorem set_sum : ∀ (xs : List Int) (k : Nat) (v : Int), k < xs.length → (xs.set k v).sum = xs.sum - xs.getD k 0 + v
  | a :: r, 0, v, _ => by simp; omega
  | a :: r, k + 1, v, h => by
    have := set_sum r k v (by simpa using h)
    simp only [List.set_cons_succ, List.sum_cons, this, List.getD_cons_succ]
    omega
  | [], _, _, h => absurd h (by simp)
theorem cntL_sum {n : Nat} {cs : List Int} : (∀ c ∈ cs, -1 ≤ c ∧ c < (n : Int)) → (cntL n cs).sum = cs.length := by
  induction cs using snoc_rec with
  | h0 => intro _; rw [cntL_nil]; simp [List.sum_replicate_int]
  | h1 cs c ih =>
    intro hc
    have h1 := hc c (by simp)
    rw [cntL_snoc, bump, set_sum _ _ _ (by rw [cntL_len]; omega), ih (fun d hd => hc d (by simp [hd]))]
    simp
    omega
theorem plRows_cells {U : Tab} {R S : Nat} {lo hi : Int} (h : ∀ r s, lo ≤ U r s ∧ U r s < hi) {row : List Int} (hr : row ∈ plRows U R S) : row.length = S ∧ ∀ c ∈ row, lo ≤ c ∧ c < hi := by
  obtain ⟨r, -, rfl⟩ := List.mem_map.1 hr
  refine ⟨by simp, fun c hc => ?_⟩
  obtain ⟨s, -, rfl⟩ := List.mem_map.1 hc
  exact h r s
theorem flat_count (U : Tab) (R S : Nat) (v : Int) : (plRows U R S).flatten.count v = cntT U R S v := by
  unfold plRows cntT
  rw [List.count_flatten, List.map_map]
  rfl
theorem flat_all (U : Tab) (R S : Nat) : (plRows U R S).flatten.length = R * S := by
  unfold plRows
  rw [List.length_flatten, List.map_map, show (List.length ∘ fun r => (List.range S).map (U r)) = fun _ => S from by funext r; simp, List.map_const', List.sum_replicate_nat, List.length_range]
/-- What the law of plans asks. -/
theorem table_law {t : List Dm} {R S : Nat} {bs : List Bk} {U : Tab} (hR : isPow (R : Int) = true) (hd : ∀ x ∈ t, isPow x.every = true) (h : plTab tab0 R S 0 t bs = some U) :
    (∀ row ∈ plRows U R S, row.length = S ∧ ∀ c ∈ row, -1 ≤ c ∧ c < (t.length : Int)) ∧ (∀ j, (hj : j < t.length) → (cntL t.length (plRows U R S).flatten).getD (j + 1) 0 = ((R / (t[j]).every.toNat : Nat) : Int)) ∧ (cntL t.length (plRows U R S).flatten).sum = ((R * S : Nat) : Int) := by
  obtain ⟨-, h2, h3⟩ := plTab_count hR t tab0 0 bs U h hd (fun r s => by simp [tab0])
  have h3' : ∀ r s, -1 ≤ U r s ∧ U r s < (t.length : Int) := fun r s => by have := h3 r s; simpa using this
  have hrow := fun row (hr : row ∈ plRows U R S) => plRows_cells h3' hr
  have hall : ∀ c ∈ (plRows U R S).flatten, -1 ≤ c ∧ c < (t.length : Int) := fun c hc => by
    obtain ⟨row, hr, hm⟩ := List.mem_flatten.1 hc
    exact (hrow row hr).2 c hm
  refine ⟨hrow, fun j hj => ?_, ?_⟩
  · rw [cntL_get hall, show ((j + 1 : Nat) : Int) - 1 = ((0 + j : Nat) : Int) from by omega, flat_count, h2 j hj]
  · rw [cntL_sum hall, flat_all]
end

section

/-! ### tables of a period -/
def perT (T : Tab) (e R S : Nat) : Prop := ∀ r s, s < S → r + e < R → (T r s = -1 ↔ T (r + e) s = -1)
theorem plHits_mod {e p r : Nat} (hp : p < e) : plHits e p r = true ↔ r % e = p := by
  rw [plHits_iff]
  constructor
  · rintro ⟨h1, h2⟩
    have h3 : r = p + (r - p) / e * e := by have := Nat.div_add_mod' (r - p) e; omega
    rw [h3, Nat.add_mul_mod_self_right, Nat.mod_eq_of_lt hp]
  · intro h
    have h1 := Nat.mod_le r e
    refine ⟨by omega, ?_⟩
    have h2 := Nat.div_add_mod' r e
    rw [show r - p = r / e * e from by omega]
    exact Nat.mul_mod_left _ _
theorem perT_far {T : Tab} {e R S s p : Nat} (h : perT T e R S) (hs : s < S) : ∀ m, p + m * e < R → (T p s = -1 ↔ T (p + m * e) s = -1)
  | 0, _ => by simp
  | m + 1, hm => by
    rw [Nat.succ_mul] at hm ⊢
    rw [perT_far h hs m (by omega), h _ s hs (by omega), Nat.add_assoc]
theorem perT_free {T : Tab} {e R S s p : Nat} (h : perT T e R S) (hs : s < S) (hp : p < e) (he : e ≤ R) : plFree T e p s R = true ↔ T p s = -1 := by
  rw [plFree_iff]
  constructor
  · intro h1
    exact h1 p (by omega) ((plHits_mod hp).2 (Nat.mod_eq_of_lt hp))
  · intro h1 r hr hh
    have h2 := (plHits_mod hp).1 hh
    have h3 := Nat.div_add_mod' r e
    have h4 : r = p + r / e * e := by omega
    rw [h4]
    exact (perT_far h hs _ (by omega)).1 h1
/-- Where nothing fits there is no free cell. -/
theorem full_of_none {T : Tab} {R S : Nat} {x : Dm} (hx : isPow x.every = true) (h : perT T x.every.toNat R S) (he : x.every ≤ R) (hn : plFirst T R S x = none) : cntT T R S (-1) = 0 := by
  have hx' := isPow_iff.1 hx
  refine cntT_zero fun r s hr hs e => ?_
  have hp : r % x.every.toNat < x.every.toNat := Nat.mod_lt _ (by omega)
  have h3 := Nat.div_add_mod' r x.every.toNat
  have h4 : r = r % x.every.toNat + r / x.every.toNat * x.every.toNat := by omega
  rw [h4] at e
  have e2 := (perT_far h hs _ (by omega)).2 e
  have hf : plFits T R S x ⟨(s : Int), ((r % x.every.toNat : Nat) : Int)⟩ = true := by
    have := (perT_free h hs hp (by omega)).2 e2
    unfold plFits inRange
    simp only [Bool.and_eq_true, decide_eq_true_eq]
    refine ⟨he, ⟨by omega, by omega⟩, ⟨by omega, by omega⟩, ?_⟩
    rw [Int.toNat_natCast, Int.toNat_natCast]
    exact this
  have h5 : ∀ k, k < S → plIn T R S x k = none := by
    intro k hk
    refine Classical.byContradiction fun hc => ?_
    obtain ⟨p, hp'⟩ := Option.ne_none_iff_exists'.1 hc
    unfold plFirst at hn
    have h6 : (List.range S).find? (fun s => (plIn T R S x s).isSome) ≠ none := by
      intro h7
      rw [List.find?_eq_none] at h7
      have := h7 k (List.mem_range.2 hk)
      rw [hp'] at this
      simp at this
    obtain ⟨k2, hk2⟩ := Option.ne_none_iff_exists'.1 h6
    rw [hk2] at hn
    rw [List.find?_range_eq_some] at hk2
    obtain ⟨q, hq⟩ := Option.isSome_iff_exists.1 hk2.1
    simp [hq] at hn
  have h6 := h5 s hs
  unfold plIn at h6
  rw [List.find?_eq_none] at h6
  exact h6 _ (List.mem_range.2 hp) hf
theorem free_put {T : Tab} {R S : Nat} {x : Dm} {b : Bk} {i : Int} (h : plFits T R S x b = true) (hi : i ≠ -1) : cntT T R S (-1) = cntT (plPut T R x b i) R S (-1) + hitsN x.every.toNat b.phase.toNat R := by
  obtain ⟨-, h1, h2, h3⟩ := plFits_phase h
  have hs : b.slot.toNat < S := by omega
  rw [plFree_iff] at h3
  have key : ∀ r, r < R → ((List.range S).map (T r)).count (-1) = ((List.range S).map (plPut T R x b i r)).count (-1) + if plHits x.every.toNat b.phase.toNat r = true then 1 else 0 := by
    intro r hr
    by_cases hh : plHits x.every.toNat b.phase.toNat r = true
    · have e1 : plPut T R x b i r b.slot.toNat = i := by unfold plPut plPutTo; rw [if_pos ⟨rfl, hh, hr⟩]
      rw [count_one (f := T r) (g := plPut T R x b i r) (s := b.slot.toNat) S hs (fun k hk => by unfold plPut plPutTo; rw [if_neg (fun h => hk h.1)]) (by rw [e1]; exact hi), h3 r hr hh, hh]
      simp
    · have e1 : plPut T R x b i r = T r := by funext k; unfold plPut plPutTo; rw [if_neg (fun h => hh h.2.1)]
      rw [e1]
      simp [hh]
  unfold cntT
  rw [sum_count (P := fun r => plHits x.every.toNat b.phase.toNat r) R key]
  rfl
theorem perT_put {T : Tab} {R S e : Nat} {x : Dm} {b : Bk} {i : Int} (h : plFits T R S x b = true) (hx : 0 < x.every.toNat) (hd : x.every.toNat ∣ e) (hT : perT T e R S) : perT (plPut T R x b i) e R S := by
  obtain ⟨-, h1, h2, -⟩ := plFits_phase h
  have hp : b.phase.toNat < x.every.toNat := by omega
  intro r s hs hr
  have h3 := hT r s hs hr
  have h4 : plHits x.every.toNat b.phase.toNat r = plHits x.every.toNat b.phase.toNat (r + e) := by
    obtain ⟨m, rfl⟩ := hd
    rw [Bool.eq_iff_iff, plHits_mod hp, plHits_mod hp, Nat.add_mul_mod_self_left]
  unfold plPut plPutTo
  by_cases hc : s = b.slot.toNat ∧ plHits x.every.toNat b.phase.toNat r = true
  · rw [if_pos ⟨hc.1, hc.2, by omega⟩, if_pos ⟨hc.1, h4 ▸ hc.2, hr⟩]
  · rw [if_neg (fun h => hc ⟨h.1, h.2.1⟩), if_neg (fun h => hc ⟨h.1, by rw [h4]; exact h.2.1⟩)]
    exact h3
def shareN (R : Nat) (t : List Dm) : Nat := (t.map fun x => R / x.every.toNat).sum
theorem pow_dvd {a b : Int} (ha : isPow a = true) (hb : isPow b = true) (h : a ≤ b) : a.toNat ∣ b.toNat := by
  rcases isPow_iff.1 ha with rfl | rfl | rfl | rfl <;> rcases isPow_iff.1 hb with rfl | rfl | rfl | rfl <;> first | decide | (exfalso; omega)
/-- Planning of demands in order of their periods succeeds exactly if there is room. -/
theorem plan_room {R S : Nat} (hR : isPow (R : Int) = true) : ∀ (t : List Dm) (T : Tab) (i : Nat), t.Pairwise (fun x y => x.every ≤ y.every) → (∀ x ∈ t, isPow x.every = true) → (∀ x ∈ t, perT T x.every.toNat R S) →
    ((plPlan T R S i t).isSome = true ↔ (∀ x ∈ t, x.every ≤ R) ∧ shareN R t ≤ cntT T R S (-1))
  | [], T, i, _, _, _ => by simp [plPlan, shareN]
  | x :: t, T, i, hp, hx, hT => by
    obtain ⟨hp1, hp2⟩ := List.pairwise_cons.1 hp
    have hx1 := hx x (List.mem_cons_self ..)
    have hx2 := isPow_iff.1 hx1
    have hR2 := isPow_iff.1 hR
    have hsh : shareN R (x :: t) = R / x.every.toNat + shareN R t := by simp [shareN]
    cases hf : plFirst T R S x with
    | none =>
      constructor
      · intro h
        simp [plPlan, hf] at h
      · rintro ⟨h1, h2⟩
        have h3 := h1 x (List.mem_cons_self ..)
        rw [full_of_none hx1 (hT x (List.mem_cons_self ..)) h3 hf, hsh] at h2
        have : 0 < R / x.every.toNat := Nat.div_pos (by omega) (by omega)
        omega
    | some b =>
      have hb := plFirst_fits hf
      obtain ⟨h1, -, h2, -⟩ := plFits_phase hb
      have ih := plan_room hR t (plPut T R x b (i : Int)) (i + 1) hp2 (fun y hy => hx y (List.mem_cons_of_mem _ hy)) (fun y hy => perT_put hb (by omega) (pow_dvd hx1 (hx y (List.mem_cons_of_mem _ hy)) (hp1 y hy)) (hT y (List.mem_cons_of_mem _ hy)))
      have h3 := free_put (i := (i : Int)) hb (by omega)
      rw [hitsN_pow R (by simp; omega) x.every.toNat (by simp; omega) (by omega) b.phase.toNat (by omega)] at h3
      have h4 : (plPlan T R S i (x :: t)).isSome = (plPlan (plPut T R x b (i : Int)) R S (i + 1) t).isSome := by simp [plPlan, hf]
      rw [h4, ih, hsh, h3]
      constructor
      · rintro ⟨a1, a2⟩
        refine ⟨fun y hy => ?_, by omega⟩
        rcases List.mem_cons.1 hy with rfl | hy
        · exact h1
        · exact a1 y hy
      · rintro ⟨a1, a2⟩
        exact ⟨fun y hy => a1 y (List.mem_cons_of_mem _ hy), by omega⟩
theorem free_all (R S : Nat) : cntT tab0 R S (-1) = R * S := by
  rw [← flat_count]
  have h : (plRows tab0 R S).flatten = List.replicate (R * S) (-1) := by
    refine List.eq_replicate_iff.2 ⟨flat_all tab0 R S, fun c hc => ?_⟩
    obtain ⟨row, hr, hm⟩ := List.mem_flatten.1 hc
    obtain ⟨r, -, rfl⟩ := List.mem_map.1 hr
    obtain ⟨s, -, rfl⟩ := List.mem_map.1 hm
    rfl
  rw [h, List.count_replicate_self]
theorem share_load {R : Nat} (hR : isPow (R : Int) = true) : ∀ t : List Dm, (∀ x ∈ t, isPow x.every = true) → (∀ x ∈ t, x.every ≤ R) → plLoad t = (8 / R : Nat) * (shareN R t : Nat)
  | [], _, _ => by simp [plLoad, shareN]
  | x :: t, hx, hl => by
    have ih := share_load hR t (fun y hy => hx y (List.mem_cons_of_mem _ hy)) (fun y hy => hl y (List.mem_cons_of_mem _ hy))
    have h1 : plLoad (x :: t) = 8 / x.every + plLoad t := by simp [plLoad]
    have h2 : shareN R (x :: t) = R / x.every.toNat + shareN R t := by simp [shareN]
    have h3 := hl x (List.mem_cons_self ..)
    rw [h1, h2, ih, Int.natCast_add, Int.mul_add]
    congr 1
    have hR' : R = 1 ∨ R = 2 ∨ R = 4 ∨ R = 8 := by have := isPow_iff.1 hR; omega
    rcases isPow_iff.1 (hx x (List.mem_cons_self ..)) with e | e | e | e <;> rw [e] at h3 ⊢ <;> rcases hR' with rfl | rfl | rfl | rfl <;> first | rfl | (exfalso; omega)
/-- Planning of sorted demands. -/
theorem plan_sorted {R S : Nat} {t : List Dm} (hR : isPow (R : Int) = true) (hp : t.Pairwise (fun x y => x.every ≤ y.every)) (hx : ∀ x ∈ t, isPow x.every = true) : (plPlan tab0 R S 0 t).isSome = true ↔ (∀ x ∈ t, x.every ≤ R) ∧ plLoad t ≤ 8 * S := by
  rw [plan_room hR t tab0 0 hp hx (fun x _ r s _ _ => by simp [tab0]), free_all]
  have hR' : R = 1 ∨ R = 2 ∨ R = 4 ∨ R = 8 := by have := isPow_iff.1 hR; omega
  constructor
  · rintro ⟨h1, h2⟩
    refine ⟨h1, ?_⟩
    rw [share_load hR t hx h1]
    rcases hR' with rfl | rfl | rfl | rfl <;> omega
  · rintro ⟨h1, h2⟩
    refine ⟨h1, ?_⟩
    rw [share_load hR t hx h1] at h2
    rcases hR' with rfl | rfl | rfl | rfl <;> omega
end

section
open Go.RowKit

theorem plSorted_mem {t : List Dm} (h : ∀ x ∈ t, isPow x.every = true) (x : Dm) : x ∈ plSorted t ↔ x ∈ t := by
  unfold plSorted
  simp only [List.mem_append, List.mem_filter, decide_eq_true_eq]
  constructor
  · rintro (⟨h1, -⟩ | ⟨h1, -⟩ | ⟨h1, -⟩ | ⟨h1, -⟩) <;> exact h1
  · intro hx
    rcases isPow_iff.1 (h x hx) with e | e | e | e
    · exact .inl ⟨hx, e⟩
    · exact .inr (.inl ⟨hx, e⟩)
    · exact .inr (.inr (.inl ⟨hx, e⟩))
    · exact .inr (.inr (.inr ⟨hx, e⟩))
theorem plSorted_sum (g : Dm → Int) : ∀ t : List Dm, (∀ x ∈ t, isPow x.every = true) → ((plSorted t).map g).sum = (t.map g).sum
  | [], _ => rfl
  | a :: t, h => by
    have ih := plSorted_sum g t (fun x hx => h x (List.mem_cons_of_mem _ hx))
    unfold plSorted at ih ⊢
    simp only [List.map_append, List.sum_append] at ih
    rcases isPow_iff.1 (h a (List.mem_cons_self ..)) with e | e | e | e <;> simp [e] <;> omega
theorem plSorted_len (t : List Dm) (h : ∀ x ∈ t, isPow x.every = true) : (plSorted t).length = t.length := by
  have := plSorted_sum (fun _ => 1) t h
  simp only [List.map_const', List.sum_replicate_int] at this
  omega
theorem plSorted_pair (t : List Dm) : (plSorted t).Pairwise (fun x y => x.every ≤ y.every) := by
  have f : ∀ k : Int, (t.filter fun x => decide (x.every = k)).Pairwise (fun x y => x.every ≤ y.every) := fun k => by
    refine List.pairwise_of_forall_mem_list fun x hx y hy => ?_
    have h1 := (List.mem_filter.1 hx).2
    have h2 := (List.mem_filter.1 hy).2
    simp only [decide_eq_true_eq] at h1 h2
    omega
  have e : ∀ (k : Int) x, x ∈ (t.filter fun x => decide (x.every = k)) → x.every = k := fun k x hx => by
    have h1 := (List.mem_filter.1 hx).2
    simpa using h1
  unfold plSorted
  refine List.pairwise_append.2 ⟨f 1, List.pairwise_append.2 ⟨f 2, List.pairwise_append.2 ⟨f 4, f 8, fun x hx y hy => ?_⟩, fun x hx y hy => ?_⟩, fun x hx y hy => ?_⟩
  · rw [e 4 x hx, e 8 y hy]; decide
  · rw [e 2 x hx]
    rcases List.mem_append.1 hy with hy | hy
    · rw [e 4 y hy]; decide
    · rw [e 8 y hy]; decide
  · rw [e 1 x hx]
    rcases List.mem_append.1 hy with hy | hy
    · rw [e 2 y hy]; decide
    · rcases List.mem_append.1 hy with hy | hy
      · rw [e 4 y hy]; decide
      · rw [e 8 y hy]; decide
theorem plSorted_dms {t : List Dm} (h : areDms t = true) : areDms (plSorted t) = true := by
  obtain ⟨h1, h2⟩ := areDms_iff.1 h
  refine areDms_iff.2 ⟨by rw [plSorted_len t (dms_pow h)]; exact h1, fun x hx => h2 x ((plSorted_mem (dms_pow h) x).1 hx)⟩
/-- The greatest period, 1 at least. -/
def mostE (t : List Dm) : Int := t.foldl (fun m x => max m x.every) 1
theorem mostE_le : ∀ (t : List Dm) (m R : Int), t.foldl (fun m x => max m x.every) m ≤ R ↔ m ≤ R ∧ ∀ x ∈ t, x.every ≤ R
  | [], m, R => by simp
  | a :: t, m, R => by
    rw [List.foldl_cons, mostE_le t]
    simp only [List.mem_cons, forall_eq_or_imp]
    constructor
    · rintro ⟨h1, h2⟩; exact ⟨by omega, by omega, h2⟩
    · rintro ⟨h1, h2, h3⟩; exact ⟨by omega, h3⟩
/-- What the law of planning sorted demands says. -/
theorem sorted_law {t : List Dm} {R S : Int} (h : planCode t R S = 0) : ((planDemands (plSorted t) R S).2 = 0 ↔ plLoad t ≤ 8 * S ∧ mostE t ≤ R) := by
  have hk := okPl h
  have hp := dms_pow hk.dm
  have hR := isPow_iff.1 hk.R
  have hc := planCode_of (plSorted_dms hk.dm) hk.R hk.S0 hk.S1
  have hR' : isPow (R.toNat : Int) = true := by rw [show (R.toNat : Int) = R from by omega]; exact hk.R
  have key := plan_sorted (S := S.toNat) hR' (plSorted_pair t) (fun x hx => hp x ((plSorted_mem hp x).1 hx))
  have hl : plLoad (plSorted t) = plLoad t := plSorted_sum (fun x => 8 / x.every) t hp
  have hm : mostE t ≤ R ↔ ∀ x ∈ plSorted t, x.every ≤ (R.toNat : Int) := by
    unfold mostE
    rw [mostE_le]
    constructor
    · rintro ⟨-, h2⟩ x hx
      have := h2 x ((plSorted_mem hp x).1 hx)
      omega
    · intro h2
      refine ⟨by omega, fun x hx => ?_⟩
      have := h2 x ((plSorted_mem hp x).2 hx)
      omega
  rw [hl] at key
  have hS := hk.S0
  have e8 : (8 : Int) * (S.toNat : Int) = 8 * S := by omega
  rw [e8] at key
  cases hpl : plPlan tab0 R.toNat S.toNat 0 (plSorted t) with
  | none =>
    rw [planDemands_none hc hpl]
    rw [hpl] at key
    constructor
    · intro h0; cases h0
    · rintro ⟨h1, h2⟩
      exact absurd (key.2 ⟨hm.1 h2, h1⟩) (by simp)
  | some l =>
    rw [planDemands_some hc hpl]
    rw [hpl] at key
    have := key.1 rfl
    exact ⟨fun _ => ⟨this.2, hm.2 this.1⟩, fun _ => rfl⟩
theorem plan_possible {t : List Dm} {R S : Int} {l : List Bk} (h : planDemands t R S = (l, 0)) : arePossible t R S l = true := by
  have hc : planCode t R S = 0 := by
    refine Classical.byContradiction fun hc => ?_
    rw [planDemands_bad hc] at h
    exact hc (congrArg Prod.snd h)
  cases hl : plPlan tab0 R.toNat S.toNat 0 t with
  | none => rw [planDemands_none hc hl] at h; cases h
  | some l' =>
    rw [planDemands_some hc hl] at h
    cases h
    have ht := plPlan_table t tab0 0 hl
    obtain ⟨U, hU⟩ := Option.isSome_iff_exists.1 ht
    unfold arePossible
    rw [planTable_some hc hU]
    rfl
theorem plan_code {t : List Dm} {R S : Int} {l : List Bk} {c : Int} (h : planDemands t R S = (l, c)) (hc : c = 0 ∨ c = 4) : planCode t R S = 0 := by
  refine Classical.byContradiction fun hp => ?_
  rw [planDemands_bad hp] at h
  have e : planCode t R S = c := congrArg Prod.snd h
  unfold planCode at e hp
  split at e
  · omega
  · rename_i h1
    rw [if_neg h1] at hp
    split at e
    · omega
    · rename_i h2
      rw [if_neg h2] at hp
      exact hp rfl
theorem sorted_pair {t u : List Dm} {d : Int} (h : sortDemands t = (u, d)) : ∀ i j, i < j → j < u.length → (dmOf u i).every ≤ (dmOf u j).every := by
  intro i j hij hj
  unfold sortDemands at h
  split at h
  · cases h; simp at hj
  · have e : plSorted t = u := congrArg Prod.fst h
    subst e
    have := List.pairwise_iff_getElem.1 (plSorted_pair t) i j (by omega) hj hij
    rwa [← dmOf_get (by omega), ← dmOf_get hj] at this
theorem bk_neq (a b : Int) (w : World) : (binOp .neq 31 (.agg #[.int .i64 a, .int .i64 b]) (.agg #[.int .i64 a, .int .i64 b])).run Try.prog w = .ok (.bool false) w := by
  rw [run_neq_struct]
  have h : (Op.equalIn 10000 31 (.agg #[.int .i64 a, .int .i64 b]) (.agg #[.int .i64 a, .int .i64 b])).run Try.prog w = .ok true w := by
    rw [run_equalIn_agg w 9999 _ _ _ (by kernel_rfl) (by kernel_rfl)]
    have hp : Try.prog.stoodInHeld 2 = false := by kernel_rfl
    simp only [Program.fieldsOf, Try.underlying31, Op.eqFields]
    simp [go_sem]
  rw [h]; rfl
theorem dm_neq (a b c : Int) (w : World) : (binOp .neq 38 (.agg #[.int .i64 a, .int .i64 b, .int .i64 c]) (.agg #[.int .i64 a, .int .i64 b, .int .i64 c])).run Try.prog w = .ok (.bool false) w := by
  rw [run_neq_struct]
  have h : (Op.equalIn 10000 38 (.agg #[.int .i64 a, .int .i64 b, .int .i64 c]) (.agg #[.int .i64 a, .int .i64 b, .int .i64 c])).run Try.prog w = .ok true w := by
    rw [run_equalIn_agg w 9999 _ _ _ (by kernel_rfl) (by kernel_rfl)]
    have hp : Try.prog.stoodInHeld 2 = false := by kernel_rfl
    simp only [Program.fieldsOf, Try.underlying38, Op.eqFields]
    simp [go_sem]
  rw [h]; rfl
end
end Go.Proofs.Ytbbodgeoenjdkaa
