/-
  Stable sorting, plainly: the place where a merge parts. No program is named here.
-/
import Derived.Test.YtbbodgeoenjdkaaSm2
namespace Go.Proofs.Ytbbodgeoenjdkaa

/-- What the search for the place keeps, between lo and hi. -/
structure SeF (f : Nat → Dm) (n lo hi s r : Nat) : Prop where
  l : lo ≤ s
  m : s ≤ r
  h : r ≤ hi
  low : ∀ c, lo ≤ c → c < s → (f c).every ≤ (f (n - 1 - c)).every
  high : ∀ c, r ≤ c → c < hi → (f (n - 1 - c)).every < (f c).every
/-- The bounds of the search. -/
structure BdF (a m b mid lo hi : Nat) : Prop where
  am : a < m
  mb : m < b
  md : mid = (a + b) / 2
  at_ : (mid < m ∧ lo = mid + m - b ∧ hi = mid) ∨ (m ≤ mid ∧ lo = a ∧ hi = m)
theorem BdF.facts {a m b mid lo hi : Nat} (h : BdF a m b mid lo hi) : a ≤ lo ∧ lo ≤ hi ∧ hi ≤ m ∧ hi ≤ mid ∧ (∀ c, lo ≤ c → c < hi → m ≤ mid + m - 1 - c ∧ mid + m - 1 - c < b) := by
  have h1 := h.am; have h2 := h.mb; have h3 := h.md
  rcases h.at_ with ⟨e1, e2, e3⟩ | ⟨e1, e2, e3⟩ <;> (refine ⟨by omega, by omega, by omega, by omega, fun c c1 c2 => ⟨by omega, by omega⟩⟩)
theorem SeF.start {f : Nat → Dm} {a m b mid lo hi : Nat} (h : BdF a m b mid lo hi) : SeF f (mid + m) lo hi lo hi :=
  ⟨Nat.le_refl _, h.facts.2.1, Nat.le_refl _, fun c h1 h2 => absurd h1 (by omega), fun c h1 h2 => absurd h1 (by omega)⟩
theorem SeF.up {f : Nat → Dm} {a m b mid lo hi s r c : Nat} (hb : BdF a m b mid lo hi) (h1 : SdF f a m) (h2 : SdF f m b) (h : SeF f (mid + m) lo hi s r) (c1 : s ≤ c) (c2 : c < r) (hc : (f c).every ≤ (f (mid + m - 1 - c)).every) : SeF f (mid + m) lo hi (c + 1) r := by
  obtain ⟨f1, f2, f3, f4, f5⟩ := hb.facts
  have g1 := h.l; have g2 := h.h
  refine ⟨by omega, by omega, h.h, fun d d1 d2 => ?_, h.high⟩
  have k1 := f5 d d1 (by omega)
  have k2 := f5 c (by omega) (by omega)
  exact Int.le_trans (h1 d c (by omega) (by omega) (by omega)) (Int.le_trans hc (h2 _ _ k2.1 (by omega) k1.2))
theorem SeF.down {f : Nat → Dm} {a m b mid lo hi s r c : Nat} (hb : BdF a m b mid lo hi) (h1 : SdF f a m) (h2 : SdF f m b) (h : SeF f (mid + m) lo hi s r) (c1 : s ≤ c) (c2 : c < r) (hc : (f (mid + m - 1 - c)).every < (f c).every) : SeF f (mid + m) lo hi s c := by
  obtain ⟨f1, f2, f3, f4, f5⟩ := hb.facts
  have g1 := h.l; have g2 := h.h
  refine ⟨h.l, c1, by omega, h.low, fun d d1 d2 => ?_⟩
  have k1 := f5 d (by omega) d2
  have k2 := f5 c (by omega) (by omega)
  have a1 := h2 (mid + m - 1 - d) (mid + m - 1 - c) k1.1 (by omega) k2.2
  have a2 := h1 c d (by omega) d1 (by omega)
  omega
theorem cut_of {f : Nat → Dm} {a m b mid lo hi s : Nat} (hb : BdF a m b mid lo hi) (h1 : SdF f a m) (h2 : SdF f m b) (h : SeF f (mid + m) lo hi s s) : CutF f a m b s (mid + m - s) := by
  obtain ⟨f1, f2, f3, f4, f5⟩ := hb.facts
  have g1 := h.l; have g2 := h.h; have g3 := hb.am; have g4 := hb.mb; have g5 := hb.md; have g6 := hb.at_
  refine ⟨by omega, by omega, by omega, by omega, fun x y x1 x2 y1 y2 => ?_, fun x y x1 x2 y1 y2 => ?_⟩
  · by_cases e : s = lo
    · exfalso; omega
    · have k := f5 (s - 1) (by omega) (by omega)
      have a1 := h.low (s - 1) (by omega) (by omega)
      have a2 := h1 x (s - 1) x1 (by omega) (by omega)
      have a3 := h2 (mid + m - 1 - (s - 1)) y k.1 (by omega) y2
      omega
  · by_cases e : s = hi
    · exfalso; omega
    · have k := f5 s g1 (by omega)
      have a1 := h.high s (Nat.le_refl _) (by omega)
      have a2 := h1 s x (by omega) x1 x2
      have a3 := h2 y (mid + m - 1 - s) y1 (by omega) k.2
      omega
theorem SdF.part {f : Nat → Dm} {a b c d : Nat} (h : SdF f a b) (h1 : a ≤ c) (h2 : d ≤ b) : SdF f c d := fun i j i1 i2 i3 => h i j (by omega) i2 (by omega)
/-- The four pieces after the rotation are sorted. -/
theorem rot_sd {f : Nat → Dm} {a m b s e : Nat} (c : CutF f a m b s e) (h1 : SdF f a m) (h2 : SdF f m b) : SdF (rot f s m e) a s ∧ SdF (rot f s m e) s (s + (e - m)) ∧ SdF (rot f s m e) (s + (e - m)) e ∧ SdF (rot f s m e) e b := by
  have c1 := c.s0; have c2 := c.s1; have c3 := c.e0; have c4 := c.e1
  refine ⟨fun i j i1 i2 i3 => ?_, fun i j i1 i2 i3 => ?_, fun i j i1 i2 i3 => ?_, fun i j i1 i2 i3 => ?_⟩
  · rw [rot_out f (by omega) c2 c3, rot_out f (by omega) c2 c3]; exact h1 _ _ (by omega) (by omega) (by omega)
  · rw [rot_lo f (by omega) (by omega), rot_lo f (by omega) (by omega)]; exact h2 _ _ (by omega) (by omega) (by omega)
  · rw [rot_hi f (by omega) (by omega), rot_hi f (by omega) (by omega)]; exact h1 _ _ (by omega) (by omega) (by omega)
  · rw [rot_out f (by omega) c2 c3, rot_out f (by omega) c2 c3]; exact h2 _ _ (by omega) (by omega) (by omega)
end Go.Proofs.Ytbbodgeoenjdkaa
