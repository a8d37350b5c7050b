/-
  The plain functions of chapter 14 over images and their texts, and what the law of the texts says. No program is named here.
-/
import Derived.Test.YtljdkckoelgkbaaBk
namespace Go.Proofs.Ytljdkckoelgkbaa

def idBytes (id : Int) : List Int := [id / 65536, id / 256 % 256, id % 256]
def idFrom (xs : List Int) : Int := xs.getD 0 0 * 65536 + xs.getD 1 0 * 256 + xs.getD 2 0
def idOfImage (img : List Int) : Int × Int :=
  if isBytes img = false then (0, 2) else if 0 ∈ damaged9 img then (0, 7) else
    if (sliceOf img 0).length < 8 ∨ (sliceOf img 0).getD 0 0 ≠ 0 then (0, 6) else
      if idFrom ((sliceOf img 0).drop 2) = 0 then (0, 6) else (idFrom ((sliceOf img 0).drop 2), 0)
def hexOf (d : Int) : Int := if d < 10 then 48 + d else 87 + d
def hexes (xs : List Int) : List Int := xs.flatMap fun x => [hexOf (x / 16), hexOf (x % 16)]
def digitOf (c : Int) : Int := if 48 ≤ c ∧ c ≤ 57 then c - 48 else if 97 ≤ c ∧ c ≤ 102 then c - 87 else -1
/-- The bytes of the first 2 k digits. -/
def unhex (cs : List Int) (k : Nat) : List Int := (List.range k).map fun i => 16 * digitOf (cs.getD (2 * i) 0) + digitOf (cs.getD (2 * i + 1) 0)
def imageText (xs : List Int) : List Int := if isBytes xs = true then hexes xs else []
def areDigits (cs : List Int) : Bool := cs.all fun c => decide (0 ≤ digitOf c)
def readImageText (cs : List Int) : List Int × Bool :=
  if cs.length % 2 = 0 ∧ cs.length ≤ 2048 ∧ areDigits cs = true then (unhex cs (cs.length / 2), true) else ([], false)

/-! ### texts -/
theorem hexOf_in {d : Int} (h : 0 ≤ d ∧ d ≤ 15) : (48 ≤ hexOf d ∧ hexOf d ≤ 102) ∧ digitOf (hexOf d) = d := by
  unfold hexOf digitOf
  constructor
  · split <;> omega
  · repeat' split
    all_goals omega
theorem digit_hex {c : Int} (h : 0 ≤ digitOf c) : (0 ≤ digitOf c ∧ digitOf c ≤ 15) ∧ hexOf (digitOf c) = c := by
  unfold digitOf at h ⊢
  unfold hexOf
  constructor
  · repeat' split
    all_goals omega
  · repeat' split
    all_goals omega
theorem hexes_len (xs : List Int) : (hexes xs).length = 2 * xs.length := by
  induction xs with
  | nil => rfl
  | cons x xs ih => unfold hexes at ih ⊢; rw [List.flatMap_cons, List.length_append, ih, List.length_cons]; simp; omega
theorem hexes_in {xs : List Int} (h : ∀ x ∈ xs, 0 ≤ x ∧ x ≤ 255) : ∀ c ∈ hexes xs, (0 ≤ c ∧ c ≤ 255) ∧ 0 ≤ digitOf c := by
  intro c hc
  obtain ⟨x, hx, hc⟩ := List.mem_flatMap.1 hc
  have := h x hx
  simp only [List.mem_cons, List.not_mem_nil, or_false] at hc
  rcases hc with rfl | rfl
  · have g := hexOf_in (d := x / 16) (by omega)
    omega
  · have g := hexOf_in (d := x % 16) (by omega)
    omega
theorem hexes_app (xs ys : List Int) : hexes (xs ++ ys) = hexes xs ++ hexes ys := by unfold hexes; rw [List.flatMap_append]
theorem unhex_len (cs : List Int) (k : Nat) : (unhex cs k).length = k := by simp [unhex]
theorem unhex_succ (cs : List Int) (k : Nat) : unhex cs (k + 1) = unhex cs k ++ [16 * digitOf (cs.getD (2 * k) 0) + digitOf (cs.getD (2 * k + 1) 0)] := by
  unfold unhex; rw [List.range_succ, List.map_append]; rfl
theorem unhex_hexes {xs : List Int} (h : ∀ x ∈ xs, 0 ≤ x ∧ x ≤ 255) : unhex (hexes xs) xs.length = xs := by
  have key : ∀ k, k ≤ xs.length → unhex (hexes xs) k = xs.take k := by
    intro k
    induction k with
    | zero => intro _; rfl
    | succ k ih =>
      intro hk
      rw [unhex_succ, ih (by omega)]
      have hk2 : k < xs.length := hk
      have e : hexes xs = hexes (xs.take k) ++ ([hexOf (xs[k] / 16), hexOf (xs[k] % 16)] ++ hexes (xs.drop (k + 1))) := by
        conv => lhs; rw [← List.take_append_drop k xs, List.drop_eq_getElem_cons hk2, hexes_app]
        rfl
      have hlen : (hexes (xs.take k)).length = 2 * k := by rw [hexes_len, List.length_take]; omega
      have g0 : (hexes xs).getD (2 * k) 0 = hexOf (xs[k] / 16) := by
        rw [e, List.getD, List.getElem?_append_right (by omega), hlen, Nat.sub_self]; rfl
      have g1 : (hexes xs).getD (2 * k + 1) 0 = hexOf (xs[k] % 16) := by
        rw [e, List.getD, List.getElem?_append_right (by omega), hlen, show 2 * k + 1 - 2 * k = 1 by omega]; rfl
      have := h xs[k] (List.getElem_mem hk2)
      rw [g0, g1, (hexOf_in (d := xs[k] / 16) (by omega)).2, (hexOf_in (d := xs[k] % 16) (by omega)).2, List.take_succ_eq_append_getElem hk2]
      congr 2
      omega
  rw [key _ (Nat.le_refl _), List.take_length]
theorem areDigits_iff {cs : List Int} : areDigits cs = true ↔ ∀ c ∈ cs, 0 ≤ digitOf c := by simp [areDigits]
theorem getD_mem14 {cs : List Int} {i : Nat} (h : i < cs.length) : cs.getD i 0 ∈ cs := by
  rw [List.getD, List.getElem?_eq_getElem h]; exact List.getElem_mem h
theorem hexes_unhex {cs : List Int} (h : areDigits cs = true) : ∀ k, 2 * k ≤ cs.length → hexes (unhex cs k) = cs.take (2 * k) := by
  have h := areDigits_iff.1 h
  intro k
  induction k with
  | zero => intro _; rfl
  | succ k ih =>
    intro hk
    rw [unhex_succ, hexes_app, ih (by omega)]
    have a := digit_hex (h _ (getD_mem14 (cs := cs) (i := 2 * k) (by omega)))
    have b := digit_hex (h _ (getD_mem14 (cs := cs) (i := 2 * k + 1) (by omega)))
    have e1 : (16 * digitOf (cs.getD (2 * k) 0) + digitOf (cs.getD (2 * k + 1) 0)) / 16 = digitOf (cs.getD (2 * k) 0) := by omega
    have e2 : (16 * digitOf (cs.getD (2 * k) 0) + digitOf (cs.getD (2 * k + 1) 0)) % 16 = digitOf (cs.getD (2 * k + 1) 0) := by omega
    have e3 : hexes [16 * digitOf (cs.getD (2 * k) 0) + digitOf (cs.getD (2 * k + 1) 0)] = [cs.getD (2 * k) 0, cs.getD (2 * k + 1) 0] := by
      unfold hexes
      simp only [List.flatMap_cons, List.flatMap_nil, List.append_nil]
      rw [e1, e2, a.2, b.2]
    have g0 : cs.getD (2 * k) 0 = cs[2 * k]'(by omega) := by rw [List.getD, List.getElem?_eq_getElem (by omega)]; rfl
    have g1 : cs.getD (2 * k + 1) 0 = cs[2 * k + 1]'(by omega) := by rw [List.getD, List.getElem?_eq_getElem (by omega)]; rfl
    rw [e3, g0, g1, show 2 * (k + 1) = 2 * k + 1 + 1 by omega, List.take_succ_eq_append_getElem (show 2 * k + 1 < cs.length by omega), List.take_succ_eq_append_getElem (show 2 * k < cs.length by omega), List.append_assoc]
    rfl
theorem unhex_in {cs : List Int} (h : areDigits cs = true) (k : Nat) (hk : 2 * k ≤ cs.length) : ∀ y ∈ unhex cs k, 0 ≤ y ∧ y ≤ 255 := by
  have h := areDigits_iff.1 h
  intro y hy
  obtain ⟨i, hi, rfl⟩ := List.mem_map.1 hy
  rw [List.mem_range] at hi
  have a := digit_hex (h _ (getD_mem14 (cs := cs) (i := 2 * i) (by omega)))
  have b := digit_hex (h _ (getD_mem14 (cs := cs) (i := 2 * i + 1) (by omega)))
  omega
/-- What the law of texts says. -/
theorem itext_round {xs : List Int} (h : isBytes xs = true) : readImageText (imageText xs) = (xs, true) := by
  have hb := isBytes_iff.1 h
  unfold readImageText imageText
  rw [if_pos h, hexes_len, if_pos ⟨by omega, by omega, areDigits_iff.2 fun c hc => (hexes_in hb.2 c hc).2⟩, show 2 * xs.length / 2 = xs.length by omega, unhex_hexes hb.2]
theorem text_again {cs y : List Int} (h : readImageText cs = (y, true)) : isBytes y = true ∧ imageText y = cs := by
  unfold readImageText at h
  split at h
  · rename_i hc
    obtain ⟨h1, h2, h3⟩ := hc
    obtain rfl := (Prod.mk.inj h).1
    have hb : isBytes (unhex cs (cs.length / 2)) = true := isBytes_iff.2 ⟨by rw [unhex_len]; omega, unhex_in h3 _ (by omega)⟩
    refine ⟨hb, ?_⟩
    unfold imageText
    rw [if_pos hb, hexes_unhex h3 _ (by omega), show 2 * (cs.length / 2) = cs.length by omega, List.take_length]
  · cases (Prod.mk.inj h).2
theorem text_nil : readImageText [] = ([], true) := rfl
end Go.Proofs.Ytljdkckoelgkbaa
