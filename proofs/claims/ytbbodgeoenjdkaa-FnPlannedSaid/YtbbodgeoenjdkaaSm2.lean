/-
  Stable sorting, plainly: insertions and merges by rotations. No program is named here.
-/
import Derived.Test.YtbbodgeoenjdkaaSm0
namespace Go.Proofs.Ytbbodgeoenjdkaa

theorem MgF.refl {f : Nat → Dm} {N a b : Nat} (h : b ≤ a + 1) : MgF N f f a b :=
  ⟨fun _ _ => rfl, fun i j h1 h2 h3 => by rw [show i = j from by omega]; exact Int.le_refl _, SmF.refl _ _, fun x h1 h2 => ⟨x, h1, h2, rfl⟩⟩
theorem MgF.of_sd {f : Nat → Dm} {N a b : Nat} (h : SdF f a b) : MgF N f f a b := ⟨fun _ _ => rfl, h, SmF.refl _ _, fun x h1 h2 => ⟨x, h1, h2, rfl⟩⟩
theorem MgF.trans {f h g : Nat → Dm} {N a c d b : Nat} (h1 : MgF N f h c d) (h2 : MgF N h g a b) (ha : a ≤ c) (hd : d ≤ b) : MgF N f g a b := by
  refine ⟨fun x hx => ?_, h2.sd, h2.sm.trans h1.sm, fun x x1 x2 => ?_⟩
  · rw [h2.out x hx, h1.out x (by omega)]
  · obtain ⟨y, y1, y2, e⟩ := h2.inn x x1 x2
    by_cases hy : c ≤ y ∧ y < d
    · obtain ⟨z, z1, z2, e2⟩ := h1.inn y hy.1 hy.2
      exact ⟨z, by omega, by omega, e.trans e2⟩
    · exact ⟨y, y1, y2, e.trans (h1.out y (by omega))⟩
theorem mg_rot {f : Nat → Dm} {N a b s m e : Nat} (h1 : a ≤ s) (h2 : s ≤ m) (h3 : m ≤ e) (h4 : e ≤ b) (h5 : b ≤ N) (hk : ∀ i j, s ≤ i → i < m → m ≤ j → j < e → (f j).every < (f i).every) (sd : SdF (rot f s m e) a b) : MgF N f (rot f s m e) a b := by
  refine ⟨fun x hx => rot_out f (by omega) h2 h3, sd, SmF.rot h2 h3 (by omega) hk, fun x x1 x2 => ?_⟩
  unfold rot
  split
  · exact ⟨_, by omega, by omega, rfl⟩
  · split
    · exact ⟨_, by omega, by omega, rfl⟩
    · exact ⟨_, x1, x2, rfl⟩
/-- One entry put to its place among sorted ones ahead of it. -/
theorem sd_insert {f : Nat → Dm} {a j i : Nat} (h1 : a ≤ j) (h2 : j ≤ i) (hs : SdF f a i) (hl : ∀ x, j ≤ x → x < i → (f i).every < (f x).every) (hg : j = a ∨ (f (j - 1)).every ≤ (f i).every) : SdF (rot f j i (i + 1)) a (i + 1) := by
  intro x y hx hxy hy
  by_cases e : x = y
  · rw [e]; exact Int.le_refl _
  by_cases y1 : y < j
  · rw [rot_out f (by omega) h2 (by omega), rot_out f (by omega) h2 (by omega)]
    exact hs x y hx hxy (by omega)
  by_cases y2 : y = j
  · rw [rot_out f (x := x) (by omega) h2 (by omega), rot_lo f (x := y) (by omega) (by omega), show y + (i - j) = i from by omega]
    rcases hg with hg | hg
    · omega
    · exact Int.le_trans (hs x (j - 1) hx (by omega) (by omega)) hg
  rw [rot_hi f (x := y) (by omega) (by omega), show y - (i + 1 - i) = y - 1 from by omega]
  by_cases x1 : x < j
  · rw [rot_out f (by omega) h2 (by omega)]
    exact hs x (y - 1) hx (by omega) (by omega)
  by_cases x2 : x = j
  · rw [rot_lo f (x := x) (by omega) (by omega), show x + (i - j) = i from by omega]
    exact Int.le_of_lt (hl _ (by omega) (by omega))
  rw [rot_hi f (x := x) (by omega) (by omega), show x - (i + 1 - i) = x - 1 from by omega]
  exact hs (x - 1) (y - 1) (by omega) (by omega) (by omega)
theorem mg_insert {f : Nat → Dm} {N a j i : Nat} (h1 : a ≤ j) (h2 : j ≤ i) (hN : i + 1 ≤ N) (hs : SdF f a i) (hl : ∀ x, j ≤ x → x < i → (f i).every < (f x).every) (hg : j = a ∨ (f (j - 1)).every ≤ (f i).every) : MgF N f (rot f j i (i + 1)) a (i + 1) :=
  mg_rot h1 h2 (by omega) (Nat.le_refl _) hN (fun x y x1 x2 y1 y2 => by rw [show y = i from by omega]; exact hl x x1 x2) (sd_insert h1 h2 hs hl hg)
/-- The first entry put to its place among sorted ones behind it. -/
theorem sd_first {f : Nat → Dm} {a i b : Nat} (h1 : a + 1 ≤ i) (h2 : i ≤ b) (hs : SdF f (a + 1) b) (hl : ∀ x, a + 1 ≤ x → x < i → (f x).every < (f a).every) (hg : ∀ x, i ≤ x → x < b → (f a).every ≤ (f x).every) : SdF (rot f a (a + 1) i) a b := by
  intro x y hx hxy hy
  by_cases e : x = y
  · rw [e]; exact Int.le_refl _
  by_cases y1 : y < i - 1
  · rw [rot_lo f (by omega) (by omega), rot_lo f (by omega) (by omega)]
    exact hs _ _ (by omega) (by omega) (by omega)
  by_cases y2 : y = i - 1
  · rw [rot_lo f (x := x) (by omega) (by omega), rot_hi f (x := y) (by omega) (by omega), show y - (i - (a + 1)) = a from by omega]
    exact Int.le_of_lt (hl _ (by omega) (by omega))
  rw [rot_out f (x := y) (by omega) (by omega) h1]
  by_cases x1 : x < i - 1
  · rw [rot_lo f (by omega) (by omega)]
    exact hs _ _ (by omega) (by omega) (by omega)
  by_cases x2 : x = i - 1
  · rw [rot_hi f (x := x) (by omega) (by omega), show x - (i - (a + 1)) = a from by omega]
    exact hg _ (by omega) (by omega)
  rw [rot_out f (by omega) (by omega) h1]
  exact hs _ _ (by omega) (by omega) (by omega)
theorem mg_first {f : Nat → Dm} {N a i b : Nat} (h1 : a + 1 ≤ i) (h2 : i ≤ b) (hN : b ≤ N) (hs : SdF f (a + 1) b) (hl : ∀ x, a + 1 ≤ x → x < i → (f x).every < (f a).every) (hg : ∀ x, i ≤ x → x < b → (f a).every ≤ (f x).every) : MgF N f (rot f a (a + 1) i) a b :=
  mg_rot (Nat.le_refl _) (by omega) h1 h2 hN (fun x y x1 x2 y1 y2 => by rw [show x = a from by omega]; exact hl y y1 y2) (sd_first h1 h2 hs hl hg)
/-! ### a merge in general: [s, m) and [m, e) exchanged, both halves merged -/
/-- What the search finds: of the pairs (c, p - c) those below s are in order, that at s isn't. -/
structure CutF (f : Nat → Dm) (a m b s e : Nat) : Prop where
  s0 : a ≤ s
  s1 : s ≤ m
  e0 : m ≤ e
  e1 : e ≤ b
  lo : ∀ x y, a ≤ x → x < s → e ≤ y → y < b → (f x).every ≤ (f y).every
  hi : ∀ x y, s ≤ x → x < m → m ≤ y → y < e → (f y).every < (f x).every
theorem mg_halves {f g h : Nat → Dm} {N a m b s e : Nat} (hN : b ≤ N) (c : CutF f a m b s e) (h1 : SdF f a m) (h2 : SdF f m b) (k1 : MgF N (rot f s m e) g a (s + (e - m))) (k2 : MgF N g h (s + (e - m)) b) : MgF N f h a b := by
  have c1 := c.s0; have c2 := c.s1; have c3 := c.e0; have c4 := c.e1
  have key : ∀ x y, a ≤ x → x < s + (e - m) → s + (e - m) ≤ y → y < b → (rot f s m e x).every ≤ (rot f s m e y).every := by
    intro x y x1 x2 y1 y2
    by_cases xs : x < s
    · rw [rot_out f (x := x) (by omega) c2 c3]
      by_cases ye : y < e
      · rw [rot_hi f y1 ye]
        exact h1 _ _ x1 (by omega) (by omega)
      · rw [rot_out f (x := y) (by omega) c2 c3]
        exact c.lo _ _ x1 xs (by omega) y2
    · rw [rot_lo f (by omega) x2]
      by_cases ye : y < e
      · rw [rot_hi f y1 ye]
        exact Int.le_of_lt (c.hi _ _ (by omega) (by omega) (by omega) (by omega))
      · rw [rot_out f (x := y) (by omega) c2 c3]
        exact h2 _ _ (by omega) (by omega) y2
  refine ⟨fun x hx => ?_, fun x y hx hxy hy => ?_, (k2.sm.trans k1.sm).trans (SmF.rot c2 c3 (by omega) c.hi), fun x x1 x2 => ?_⟩
  · rw [k2.out x (by omega), k1.out x (by omega), rot_out f (by omega) c2 c3]
  · by_cases x1 : s + (e - m) ≤ x
    · exact k2.sd x y x1 hxy hy
    · by_cases y1 : y < s + (e - m)
      · rw [k2.out x (by omega), k2.out y (by omega)]
        exact k1.sd x y hx hxy y1
      · obtain ⟨z, z1, z2, ez⟩ := k1.inn x hx (by omega)
        obtain ⟨u, u1, u2, eu⟩ := k2.inn y (by omega) hy
        rw [k2.out x (by omega), ez, eu, k1.out u (by omega)]
        exact key z u z1 z2 u1 u2
  · have st : ∃ y, a ≤ y ∧ y < b ∧ h x = rot f s m e y := by
      by_cases x3 : s + (e - m) ≤ x
      · obtain ⟨u, u1, u2, eu⟩ := k2.inn x x3 x2
        exact ⟨u, by omega, u2, eu.trans (k1.out u (by omega))⟩
      · obtain ⟨z, z1, z2, ez⟩ := k1.inn x x1 (by omega)
        exact ⟨z, z1, by omega, (k2.out x (by omega)).trans ez⟩
    obtain ⟨y, y1, y2, ey⟩ := st
    rw [ey]
    unfold rot
    split
    · exact ⟨_, by omega, by omega, rfl⟩
    · split
      · exact ⟨_, by omega, by omega, rfl⟩
      · exact ⟨_, y1, y2, rfl⟩
end Go.Proofs.Ytbbodgeoenjdkaa
