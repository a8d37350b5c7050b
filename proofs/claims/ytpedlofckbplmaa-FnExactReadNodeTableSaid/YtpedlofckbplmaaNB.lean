/-
  Chapter 10: what the program's reader takes from the front of a byte list, as plain functions; they read what the model reads. No program is named here.
-/
import Derived.Test.YtpedlofckbplmaaAp
namespace Go.Proofs.Ytpedlofckbplmaa

def okEntry (xs : List Int) : Bool := decide (5 ≤ xs.length) && ((decide (xs.getD 3 0 = 0) || decide (xs.getD 3 0 = 1)) && decide (5 + (xs.getD 4 0).toNat ≤ xs.length))
def theEntry (xs : List Int) : Nd := ⟨xs.getD 0 0, strOfNums ((xs.drop 5).take (xs.getD 4 0).toNat), xs.getD 1 0 * 256 + xs.getD 2 0, decide (xs.getD 3 0 = 1)⟩
def pEntry (xs : List Int) : Option (Nd × List Int) := if okEntry xs = true then some (theEntry xs, xs.drop (5 + (xs.getD 4 0).toNat)) else none
def pEnts (ys : List Int) : Nat → Option (List Nd × List Int)
  | 0 => some ([], ys)
  | k + 1 => (pEnts ys k).bind fun p => (pEntry p.2).map fun q => (p.1 ++ [q.1], q.2)
def pRead (xs : List Int) : Option (List Nd × List Int) :=
  if xs.length = 0 then none else (pEnts (xs.drop 1) (xs.getD 0 0).toNat).bind fun p => if isTable p.1 = true then some p else none

theorem okEntry_iff {xs : List Int} : okEntry xs = true ↔ 5 ≤ xs.length ∧ (xs.getD 3 0 = 0 ∨ xs.getD 3 0 = 1) ∧ 5 + (xs.getD 4 0).toNat ≤ xs.length := by
  simp [okEntry]
theorem bytes_at {xs : List Int} (h : ∀ x ∈ xs, 0 ≤ x ∧ x ≤ 255) (i : Nat) : 0 ≤ xs.getD i 0 ∧ xs.getD i 0 ≤ 255 := by
  by_cases hi : i < xs.length
  · exact h _ (getD_mem' hi)
  · rw [show xs.getD i 0 = 0 from by simp [List.getD, List.getElem?_eq_none (Nat.not_lt.1 hi)]]; omega
theorem five_take {xs : List Int} (h : 5 ≤ xs.length) : xs = [xs.getD 0 0, xs.getD 1 0, xs.getD 2 0, xs.getD 3 0, xs.getD 4 0] ++ xs.drop 5 := by
  match xs, h with
  | a :: b :: c :: d :: e :: r, _ => rfl
theorem pEntry_split {xs : List Int} (hb : ∀ x ∈ xs, 0 ≤ x ∧ x ≤ 255) (h : okEntry xs = true) : xs = ndBytes (theEntry xs) ++ xs.drop (5 + (xs.getD 4 0).toNat) := by
  obtain ⟨h1, h2, h3⟩ := okEntry_iff.1 h
  have b1 := bytes_at hb 1
  have b2 := bytes_at hb 2
  have b4 := bytes_at hb 4
  have hd : (xs.drop 5).length = xs.length - 5 := List.length_drop
  have hn : nums (strOfNums ((xs.drop 5).take (xs.getD 4 0).toNat)) = (xs.drop 5).take (xs.getD 4 0).toNat := nums_str10 _ fun x hx => hb x (List.mem_of_mem_drop (List.mem_of_mem_take hx))
  have hs : ((strOfNums ((xs.drop 5).take (xs.getD 4 0).toNat)).size : Int) = xs.getD 4 0 := by
    rw [← nums_len, hn, List.length_take, hd]; omega
  have hf : flag10 (decide (xs.getD 3 0 = 1)) = xs.getD 3 0 := by
    unfold flag10
    rcases h2 with h2 | h2 <;> rw [h2] <;> rfl
  conv => lhs; rw [five_take h1]
  unfold ndBytes theEntry
  simp only
  rw [hn, hs, hf, show (xs.getD 1 0 * 256 + xs.getD 2 0) / 256 = xs.getD 1 0 from by omega, show (xs.getD 1 0 * 256 + xs.getD 2 0) % 256 = xs.getD 2 0 from by omega]
  rw [List.append_assoc, ← List.drop_drop, List.take_append_drop]
theorem pEntry_some {xs : List Int} {x : Nd} {r : List Int} (hb : ∀ x ∈ xs, 0 ≤ x ∧ x ≤ 255) (h : pEntry xs = some (x, r)) : xs = ndBytes x ++ r := by
  unfold pEntry at h
  split at h
  · rename_i hc
    cases h
    exact pEntry_split hb hc
  · cases h
theorem pEntry_of (x : Nd) (r : List Int) : pEntry (ndBytes x ++ r) = some (x, r) := by
  have hl := ndBytes_len x
  have e0 : (ndBytes x ++ r).getD 0 0 = x.id := rfl
  have e1 : (ndBytes x ++ r).getD 1 0 = x.drift / 256 := rfl
  have e2 : (ndBytes x ++ r).getD 2 0 = x.drift % 256 := rfl
  have e3 : (ndBytes x ++ r).getD 3 0 = flag10 x.pas := rfl
  have e4 : (ndBytes x ++ r).getD 4 0 = (x.name.size : Int) := rfl
  have hd : (ndBytes x ++ r).drop 5 = nums x.name ++ r := rfl
  have hfl : flag10 x.pas = 0 ∨ flag10 x.pas = 1 := by cases x.pas <;> simp [flag10]
  have hok : okEntry (ndBytes x ++ r) = true := okEntry_iff.2 ⟨by rw [List.length_append]; omega, by rw [e3]; exact hfl, by rw [e4, List.length_append, Int.toNat_natCast]; omega⟩
  unfold pEntry
  rw [if_pos hok]
  unfold theEntry
  rw [e0, e1, e2, e3, e4, hd, Int.toNat_natCast, flag10_eq, show x.drift / 256 * 256 + x.drift % 256 = x.drift from by omega]
  rw [List.take_append_of_le_length (by rw [nums_len]; exact Nat.le_refl _), List.take_of_length_le (by rw [nums_len]; exact Nat.le_refl _), str_nums10, ← List.drop_drop, hd]
  rw [List.drop_append, List.drop_of_length_le (by rw [nums_len]; exact Nat.le_refl _), nums_len, Nat.sub_self]
  rfl
theorem pEnts_some {ys : List Int} (hb : ∀ x ∈ ys, 0 ≤ x ∧ x ≤ 255) : ∀ {k : Nat} {t : List Nd} {r : List Int}, pEnts ys k = some (t, r) → ys = t.flatMap ndBytes ++ r ∧ t.length = k
  | 0, t, r, h => by cases h; exact ⟨rfl, rfl⟩
  | k + 1, t, r, h => by
    rw [pEnts] at h
    obtain ⟨⟨t0, r0⟩, h1, h2⟩ := Option.bind_eq_some_iff.1 h
    obtain ⟨⟨x, r1⟩, h3, h4⟩ := Option.map_eq_some_iff.1 h2
    obtain ⟨e1, e2⟩ := pEnts_some hb h1
    simp only at h3 h4
    cases h4
    have hr0 : ∀ x ∈ r0, 0 ≤ x ∧ x ≤ 255 := fun x hx => hb x (by rw [e1]; exact List.mem_append_right _ hx)
    refine ⟨?_, by rw [List.length_append, e2]; rfl⟩
    rw [e1, pEntry_some hr0 h3, List.flatMap_append, List.append_assoc]
    simp
theorem pEnts_of : ∀ (k : Nat) (t : List Nd) (r : List Int), k ≤ t.length → pEnts (t.flatMap ndBytes ++ r) k = some (t.take k, (t.drop k).flatMap ndBytes ++ r)
  | 0, t, r, _ => by simp [pEnts]
  | k + 1, t, r, hk => by
    rw [pEnts, pEnts_of k t r (by omega), Option.bind_some]
    have hx : k < t.length := hk
    simp only
    rw [List.drop_eq_getElem_cons hx, List.flatMap_cons, List.append_assoc, pEntry_of, Option.map_some]
    simp only
    rw [List.take_append_getElem hx]
theorem pRead_of {t : List Nd} (h : isTable t = true) (r : List Int) : pRead (tabBytes t ++ r) = some (t, r) := by
  have e : (tabBytes t ++ r).drop 1 = t.flatMap ndBytes ++ r := rfl
  have e0 : (tabBytes t ++ r).getD 0 0 = (t.length : Int) := rfl
  have hne : ¬ (tabBytes t ++ r).length = 0 := by unfold tabBytes; simp
  unfold pRead
  rw [if_neg hne, e, e0, Int.toNat_natCast, pEnts_of t.length t r (Nat.le_refl _), Option.bind_some]
  simp only
  rw [List.take_length, if_pos h, List.drop_length]
  rfl
theorem pRead_some {xs : List Int} {t : List Nd} {r : List Int} (hb : ∀ x ∈ xs, 0 ≤ x ∧ x ≤ 255) (h : pRead xs = some (t, r)) : isTable t = true ∧ xs = tabBytes t ++ r := by
  unfold pRead at h
  split at h
  · cases h
  · rename_i h0
    obtain ⟨⟨t0, r0⟩, h1, h2⟩ := Option.bind_eq_some_iff.1 h
    split at h2
    · rename_i hc
      cases h2
      obtain ⟨e1, e2⟩ := pEnts_some (fun x hx => hb x (List.mem_of_mem_drop hx)) h1
      have hb0 := bytes_at hb 0
      refine ⟨hc, ?_⟩
      have h5 : xs = xs.getD 0 0 :: xs.drop 1 := by
        cases xs with
        | nil => simp at h0
        | cons a r => rfl
      conv => lhs; rw [h5, e1]
      unfold tabBytes
      rw [e2, Int.toNat_of_nonneg hb0.1]
      rfl
    · cases h2
/-- What the program reads is what the model reads. -/
theorem pRead_eq {xs : List Int} (hb : ∀ x ∈ xs, 0 ≤ x ∧ x ≤ 255) : readTab xs = (pRead xs).map fun p => (p.1, xs.length - p.2.length) := by
  rcases hp : pRead xs with _ | ⟨t, r⟩
  · rw [Option.map_none]
    rcases hr : readTab xs with _ | ⟨t, a⟩
    · rfl
    · obtain ⟨h1, h2, h3⟩ := readTab_yes hr
      have h4 := pRead_of h1 (xs.drop a)
      simp only at h2
      rw [h2, List.take_append_drop, hp] at h4
      cases h4
  · obtain ⟨h1, h2⟩ := pRead_some hb hp
    rw [Option.map_some]
    have h3 := readTab_round h1 r
    rw [← h2] at h3
    rw [h3]
    have h4 : xs.length = (tabBytes t).length + r.length := by conv => lhs; rw [h2]; rw [List.length_append]
    simp only
    congr 2
    omega
end Go.Proofs.Ytpedlofckbplmaa
