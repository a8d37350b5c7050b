/-
  The plain functions of chapter 7, and what its laws say of them. No program is named here.
-/
import Derived.Test.YtdcalkobcdeclaaSe1
import Derived.Test.YtdcalkobcdeclaaSixA
namespace Go.Proofs.Ytdcalkobcdeclaa

def regS (id : Int) : BitVec 24 := BitVec.ofNat 24 id.toNat
/-- What is fed ahead of the body. -/
def fedFirst (a t m r s k : Int) : List Int := if a = 0 then stateBits t m r s k else []
def sealNum (a id t m r s k : Int) (body : List Int) : Int := regOf stdG (regS id) (fedFirst a t m r s k ++ bitsOf8 body)
def three (x : Int) : List Int := [x / 65536, x / 256 % 256, x % 256]
def sealCode (f : Fr) (id t m r s k : Int) : Int := if isFrame f = false ∨ isState t m r s k = false then 1 else if inRange 0 16777215 id = false then 2 else 0
def sealFrame (f : Fr) (id t m r s k : Int) : List Int × Int := if sealCode f id t m r s k = 0 then (frameBytes f ++ three (sealNum f.kind id t m r s k (frameBytes f)), 0) else ([], sealCode f id t m r s k)
def sealNumber (f : Fr) (id t m r s k : Int) : Int × Int := if sealCode f id t m r s k = 0 then (sealNum f.kind id t m r s k (frameBytes f), 0) else (0, sealCode f id t m r s k)
def sealSize (a n : Int) : Int × Int := if (bodySize a n).2 = 0 then ((bodySize a n).1 + 3, 0) else (0, (bodySize a n).2)
def lastThree (xs : List Int) : Int := xs.getD (xs.length - 3) 0 * 65536 + xs.getD (xs.length - 3 + 1) 0 * 256 + xs.getD (xs.length - 3 + 2) 0
def openFrame (xs : List Int) (id t m r s k : Int) : Fr × Int :=
  if isState t m r s k = false then (Fr.zero, 1)
  else if inRange 0 16777215 id = false ∨ isBytes xs = false then (Fr.zero, 2)
  else if xs.length < 4 then (Fr.zero, 6)
  else if sealNum (xs.getD 0 0 / 64) id t m r s k (xs.take (xs.length - 3)) ≠ lastThree xs then (Fr.zero, 7)
  else if (frameFrom (xs.take (xs.length - 3))).2 ≠ 0 then (Fr.zero, 6)
  else if hasState (frameFrom (xs.take (xs.length - 3))).1.kind = true ∧ ¬ ((frameFrom (xs.take (xs.length - 3))).1.t = t ∧ (frameFrom (xs.take (xs.length - 3))).1.m = m ∧ (frameFrom (xs.take (xs.length - 3))).1.r = r ∧ (frameFrom (xs.take (xs.length - 3))).1.s = s ∧ (frameFrom (xs.take (xs.length - 3))).1.k = k) then (Fr.zero, 5)
  else ((frameFrom (xs.take (xs.length - 3))).1, 0)

theorem sealNum_in (a id t m r s k : Int) (body : List Int) : 0 ≤ sealNum a id t m r s k body ∧ sealNum a id t m r s k body ≤ 16777215 := reg_lt (by omega) _
theorem three_len (x : Int) : (three x).length = 3 := rfl
theorem three_bytes {x : Int} (h : 0 ≤ x ∧ x ≤ 16777215) : ∀ y ∈ three x, 0 ≤ y ∧ y ≤ 255 := by
  intro y hy
  simp only [three, List.mem_cons, List.mem_nil_iff, or_false] at hy
  rcases hy with rfl | rfl | rfl <;> omega
theorem sealCode_0 {f : Fr} {id t m r s k : Int} (h : sealCode f id t m r s k = 0) : isFrame f = true ∧ isState t m r s k = true ∧ inRange 0 16777215 id = true := by
  unfold sealCode at h
  split at h
  · omega
  · rename_i h1
    split at h
    · omega
    · rename_i h2
      exact ⟨by simpa using fun e => h1 (.inl e), by simpa using fun e => h1 (.inr e), by simpa using h2⟩
theorem sealCode_put {f : Fr} {id t m r s k : Int} (h1 : isFrame f = true) (h2 : isState t m r s k = true) (h3 : inRange 0 16777215 id = true) : sealCode f id t m r s k = 0 := by
  unfold sealCode
  rw [if_neg (by simp [h1, h2]), if_neg (by simp [h3])]
theorem seal_yes {f : Fr} {id t m r s k : Int} {out : List Int} (h : sealFrame f id t m r s k = (out, 0)) : sealCode f id t m r s k = 0 ∧ out = frameBytes f ++ three (sealNum f.kind id t m r s k (frameBytes f)) := by
  unfold sealFrame at h
  split at h
  · rename_i h1
    simp only [Prod.mk.injEq, and_true] at h
    exact ⟨h1, h.symm⟩
  · rename_i h1
    simp only [Prod.mk.injEq] at h
    exact absurd h.2 h1
theorem sealFrame_len (f : Fr) (id t m r s k : Int) : (sealFrame f id t m r s k).1.length ≤ 45 := by
  unfold sealFrame
  split
  · rename_i h
    have := frameBytes_small (sealCode_0 h).1
    simp only [List.length_append, three_len]; omega
  · simp
/-- The last three of a list behind which three bytes have been laid. -/
theorem last_three (b : List Int) (x : Int) (_ : 0 ≤ x ∧ x ≤ 16777215) : lastThree (b ++ three x) = x ∧ (b ++ three x).take ((b ++ three x).length - 3) = b ∧ (b ++ three x).length = b.length + 3 := by
  have hl : (b ++ three x).length = b.length + 3 := by rw [List.length_append, three_len]
  have hn : (b ++ three x).length - 3 = b.length := by omega
  have hg : ∀ i, (b ++ three x).getD (b.length + i) 0 = (three x).getD i 0 := fun i => by simp only [List.getD]; rw [List.getElem?_append_right (Nat.le_add_right _ _), Nat.add_sub_cancel_left]
  refine ⟨?_, ?_, hl⟩
  · unfold lastThree
    have h0 := hg 0
    have h1 := hg 1
    have h2 := hg 2
    rw [Nat.add_zero] at h0
    rw [hn, h0, h1, h2]
    show x / 65536 * 65536 + x / 256 % 256 * 256 + x % 256 = x
    omega
  · rw [hn]; exact List.take_left' rfl
theorem list_three {α : Type} {cs : List α} (h : cs.length = 3) : ∃ a b c, cs = [a, b, c] := by
  match cs, h with
  | [a, b, c], _ => exact ⟨a, b, c, rfl⟩
theorem last_of {xs : List Int} (hl : 3 ≤ xs.length) (hb : ∀ x ∈ xs, 0 ≤ x ∧ x ≤ 255) : ∃ p q r, xs.drop (xs.length - 3) = [p, q, r] ∧ (0 ≤ p ∧ p ≤ 255) ∧ (0 ≤ q ∧ q ≤ 255) ∧ (0 ≤ r ∧ r ≤ 255) ∧ lastThree xs = p * 65536 + q * 256 + r := by
  obtain ⟨p, q, r, hd⟩ := list_three (cs := xs.drop (xs.length - 3)) (by rw [List.length_drop]; omega)
  have hm : ∀ y ∈ [p, q, r], 0 ≤ y ∧ y ≤ 255 := fun y hy => hb y (List.mem_of_mem_drop (by rw [hd]; exact hy))
  have hg : ∀ i, xs.getD (xs.length - 3 + i) 0 = [p, q, r].getD i 0 := fun i => by rw [← hd]; simp only [List.getD]; rw [List.getElem?_drop]
  have h0 := hg 0
  rw [Nat.add_zero] at h0
  refine ⟨p, q, r, hd, hm p (by simp), hm q (by simp), hm r (by simp), ?_⟩
  unfold lastThree
  rw [h0, hg 1, hg 2]
  rfl
theorem lastThree_in {xs : List Int} (hl : 3 ≤ xs.length) (hb : ∀ x ∈ xs, 0 ≤ x ∧ x ≤ 255) : 0 ≤ lastThree xs ∧ lastThree xs ≤ 16777215 := by
  obtain ⟨p, q, r, -, h1, h2, h3, e⟩ := last_of hl hb
  omega
theorem three_back {xs : List Int} (hl : 3 ≤ xs.length) (hb : ∀ x ∈ xs, 0 ≤ x ∧ x ≤ 255) : xs.take (xs.length - 3) ++ three (lastThree xs) = xs := by
  obtain ⟨p, q, r, hd, h1, h2, h3, e⟩ := last_of hl hb
  have e1 : lastThree xs / 65536 = p := by omega
  have e2 : lastThree xs / 256 % 256 = q := by omega
  have e3 : lastThree xs % 256 = r := by omega
  have e4 : three (lastThree xs) = xs.drop (xs.length - 3) := by unfold three; rw [e1, e2, e3, hd]
  rw [e4, List.take_append_drop]
theorem isBytes_app {xs ys : List Int} (h1 : isBytes xs = true) (h2 : ∀ y ∈ ys, 0 ≤ y ∧ y ≤ 255) (hl : xs.length + ys.length ≤ 1024) : isBytes (xs ++ ys) = true := by
  refine isBytes_iff.2 ⟨by rw [List.length_append]; exact hl, fun x hx => ?_⟩
  rcases List.mem_append.1 hx with h | h
  · exact (isBytes_iff.1 h1).2 x h
  · exact h2 x h
/-- A sealed frame is opened with the same schedule and state. -/
theorem seal_open {f : Fr} {id t m r s k : Int} {out : List Int} (h : sealFrame f id t m r s k = (out, 0)) :
    openFrame out id t m r s k = if hasState f.kind = true ∧ ¬ (f.t = t ∧ f.m = m ∧ f.r = r ∧ f.s = s ∧ f.k = k) then (Fr.zero, 5) else (f, 0) := by
  obtain ⟨hc, rfl⟩ := seal_yes h
  obtain ⟨h1, h2, h3⟩ := sealCode_0 hc
  have hx := sealNum_in f.kind id t m r s k (frameBytes f)
  obtain ⟨e1, e2, e3⟩ := last_three (frameBytes f) _ hx
  have hs := frameBytes_small h1
  have hb := isBytes_app (frameBytes_bytes h1) (three_bytes hx) (by rw [three_len]; omega)
  have hp := isFrame_parts h1
  have hlen := frameBytes_len f
  have hh : (frameBytes f ++ three (sealNum f.kind id t m r s k (frameBytes f))).getD 0 0 / 64 = f.kind := by
    have h0 : (frameBytes f ++ three (sealNum f.kind id t m r s k (frameBytes f))).getD 0 0 = (frameBytes f).getD 0 0 := by
      have : 0 < (frameBytes f).length := by omega
      simp only [List.getD]; rw [List.getElem?_append_left this]
    rw [h0, frameBytes_head]
    exact head_kind hp.2.1
  unfold openFrame
  rw [e1, e2, hh, frame_round h1]
  rw [if_neg (by simp [h2]), if_neg (by simp [h3, hb]), if_neg (by rw [e3]; omega), if_neg (by simp), if_neg (by simp)]
/-- A frame that has been opened is sealed as the same bytes. -/
theorem open_seal {xs : List Int} {f : Fr} {id t m r s k : Int} (h : openFrame xs id t m r s k = (f, 0)) : sealFrame f id t m r s k = (xs, 0) := by
  unfold openFrame at h
  split at h
  · simp at h
  rename_i h1
  split at h
  · simp at h
  rename_i h2
  split at h
  · simp at h
  rename_i h3
  split at h
  · simp at h
  rename_i h4
  split at h
  · simp at h
  rename_i h5
  split at h
  · simp at h
  simp only [Prod.mk.injEq, and_true] at h
  have hff : frameFrom (xs.take (xs.length - 3)) = (f, 0) := by
    have : (frameFrom (xs.take (xs.length - 3))).2 = 0 := by simpa using h5
    rw [← h, ← this]
  obtain ⟨g1, g2⟩ := from_frame hff
  have hst : isState t m r s k = true := by simpa using h1
  have hid : inRange 0 16777215 id = true := by simpa using fun e => h2 (.inl e)
  have hby : isBytes xs = true := by simpa using fun e => h2 (.inr e)
  have hnum : sealNum (xs.getD 0 0 / 64) id t m r s k (xs.take (xs.length - 3)) = lastThree xs := by simpa using h4
  have hp := isFrame_parts g1
  have hkd : xs.getD 0 0 / 64 = f.kind := by
    have e0 : (xs.take (xs.length - 3)).getD 0 0 = xs.getD 0 0 := by
      have : 0 < xs.length - 3 := by omega
      simp only [List.getD]; rw [List.getElem?_take_of_lt this]
    rw [← e0, ← g2, frameBytes_head]
    exact head_kind hp.2.1
  unfold sealFrame
  rw [if_pos (sealCode_put g1 hst hid), g2, ← hkd, hnum, three_back (by omega) (isBytes_iff.1 hby).2]
theorem seal_size {f : Fr} {id t m r s k : Int} {out : List Int} (h : sealFrame f id t m r s k = (out, 0)) : sealSize f.kind f.data.length = ((out.length : Int), 0) := by
  obtain ⟨hc, rfl⟩ := seal_yes h
  unfold sealSize
  rw [body_size (sealCode_0 hc).1]
  simp [three_len]
end Go.Proofs.Ytdcalkobcdeclaa
