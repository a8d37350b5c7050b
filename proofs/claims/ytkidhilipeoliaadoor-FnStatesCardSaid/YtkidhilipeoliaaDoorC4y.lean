/-
  Chapter 4: what strings.SplitN and strconv.ParseInt make of a state's text.
-/
import Derived.Test.YtkidhilipeoliaaDoorC4t
import Derived.Test.YtkidhilipeoliaaDoorC4r
import Derived.Lib.IndexBytes
import Derived.Lib.ParseIntBCases
namespace Go.Proofs.YtkidhilipeoliaaDoor
open Go.RowKit
theorem nums_slash : nums ⟨#[47]⟩ = [47] := by decide
theorem indexByte_hit : ∀ (w rest : List UInt8), (∀ b ∈ w, b ≠ 47) → Lib.indexByte (w ++ 47 :: rest) 47 = w.length
  | [], rest, _ => by simp [Lib.indexByte]
  | b :: w, rest, h => by
    have ih := indexByte_hit w rest fun c hc => h c (by simp [hc])
    have hb := h b (by simp)
    rw [List.cons_append]
    unfold Lib.indexByte
    rw [if_neg (by simpa using hb), ih, if_neg (by simp)]
    simp
theorem indexByte_miss : ∀ (w : List UInt8), (∀ b ∈ w, b ≠ 47) → Lib.indexByte w 47 = -1
  | [], _ => rfl
  | b :: w, h => by
    have ih := indexByte_miss w fun c hc => h c (by simp [hc])
    have hb := h b (by simp)
    unfold Lib.indexByte
    rw [if_neg (by simpa using hb), ih]
    rfl
theorem dec_noslash8 (n : Nat) : ∀ b ∈ (decStr n).data.toList, b ≠ 47 := by
  intro b hb e
  have h1 : ((b.toNat : Nat) : Int) ∈ nums (decStr n) := by unfold nums; exact List.mem_map.2 ⟨b, hb, rfl⟩
  rw [nums_dec] at h1
  exact dec_noslash n _ h1 (by rw [e]; rfl)
theorem splitB_word (k : Nat) (a r : ByteArray) (ha : ∀ b ∈ a.data.toList, b ≠ 47) : Lib.splitB ⟨#[47]⟩ 0 (k + 1) (a ++ (⟨#[47]⟩ ++ r)) = a :: Lib.splitB ⟨#[47]⟩ 0 k r := by
  have hi : Lib.indexB (a ++ (⟨#[47]⟩ ++ r)) ⟨#[47]⟩ = a.size := by
    show Lib.index (a ++ (⟨#[47]⟩ ++ r)).data.toList [47] = _
    rw [Lib.index_one]
    have e : (a ++ (⟨#[47]⟩ ++ r) : ByteArray).data.toList = a.data.toList ++ 47 :: r.data.toList := by
      simp [ByteArray.data_append]
    rw [e, indexByte_hit _ _ ha, Array.length_toList]
    rfl
  rw [Lib.splitB_hit _ _ _ _ _ hi]
  congr 1
  · apply ByteArray.ext
    apply Array.ext'
    simp [ByteArray.data_extract, ByteArray.data_append]
  · congr 1
    apply nums_inj
    have hs : (a ++ (⟨#[47]⟩ ++ r) : ByteArray).size = a.size + (1 + r.size) := by rw [ByteArray.size_append, ByteArray.size_append]; rfl
    rw [nums_extract, nums_append, nums_append, nums_slash, hs, List.take_of_length_le (by simp [nums_len]; omega), ← List.append_assoc]
    exact List.drop_left' (by rw [List.length_append, nums_len]; rfl)
theorem splitB_last (k : Nat) (a : ByteArray) (ha : ∀ b ∈ a.data.toList, b ≠ 47) : Lib.splitB ⟨#[47]⟩ 0 k a = [a] :=
  Lib.splitB_miss _ _ _ _ (by
    show Lib.index a.data.toList [47] = _
    rw [Lib.index_one]
    exact indexByte_miss _ ha)
theorem split_slashed (t m r s k : Nat) : Lib.splitB ⟨#[47]⟩ 0 4 (slashed [(t : Int), (m : Int), (r : Int), (s : Int), (k : Int)]) = [decStr t, decStr m, decStr r, decStr s, decStr k] := by
  rw [slashed_five]
  simp only [ByteArray.append_assoc]
  rw [splitB_word _ _ _ (dec_noslash8 t), splitB_word _ _ _ (dec_noslash8 m), splitB_word _ _ _ (dec_noslash8 r), splitB_word _ _ _ (dec_noslash8 s), splitB_last _ _ (dec_noslash8 k)]
theorem parse_digits (n : Nat) : ∀ rest, n < 1099511627776 → Lib.parseUintM (2 ^ 64 - 1) 0 (Lib.decDigits n ++ rest) = Lib.parseUintM (2 ^ 64 - 1) n rest := by
  induction n using Nat.strongRecOn with
  | _ n ih =>
    intro rest hn
    by_cases h : n < 10
    · rw [Lib.decDigits, dif_pos h, List.cons_append, List.nil_append, Lib.parseUintM]
      have hc : (UInt8.ofNat (48 + n)).toNat = 48 + n := by simp; omega
      rw [hc, if_pos (by omega), if_neg (by omega), if_neg (by omega)]
      congr 1
      omega
    · rw [Lib.decDigits, dif_neg h, List.append_assoc, ih (n / 10) (by omega) _ (by omega), List.cons_append, List.nil_append, Lib.parseUintM]
      have hc : (UInt8.ofNat (48 + n % 10)).toNat = 48 + n % 10 := by simp; omega
      rw [hc, if_pos (by omega), if_neg (by omega), if_neg (by omega)]
      congr 1
      omega
theorem parse_dec (n : Nat) (hn : n < 1099511627776) : Lib.parseIntB 64 (decStr n).data.toList = .ok (n : Int) := by
  have hd : (decStr n).data.toList = Lib.decDigits n := by unfold decStr; simp
  have hne : Lib.decDigits n ≠ [] := by
    intro e
    have := Lib.decDigits_length n
    rw [e] at this
    have h2 := dec_len 12 n (by omega)
    rw [← nums_dec, nums_len] at h2
    have h3 : (decStr n).size = (Lib.decDigits n).length := by show (Lib.decDigits n).toArray.size = _; simp
    rw [h3, e] at h2
    simp at h2
  have hu : Lib.parseUintB 64 (Lib.decDigits n) = .ok n := by
    unfold Lib.parseUintB
    rw [if_neg hne]
    have := parse_digits n [] hn
    rw [List.append_nil] at this
    rw [this]
    rfl
  rw [hd]
  have hs : ∀ b ∈ Lib.decDigits n, 48 ≤ b.toNat := by
    intro b hb
    have h1 : ((b.toNat : Nat) : Int) ∈ nums (decStr n) := by unfold nums; rw [hd]; exact List.mem_map.2 ⟨b, hb, rfl⟩
    rw [nums_dec] at h1
    have := dec_digits n _ h1
    omega
  rcases hl : Lib.decDigits n with _ | ⟨c, r⟩
  · exact absurd hl hne
  · have hc := hs c (by rw [hl]; simp)
    rw [Lib.parseIntB_plain _ _ _ (by omega) (by omega), ← hl, hu]
    show (if 2 ^ (64 - 1) ≤ n then Lib.NumEnd.range else Lib.NumEnd.ok (n : Int)) = _
    rw [if_neg (by have : (2 : Nat) ^ (64 - 1) = 9223372036854775808 := by decide
                   omega)]
theorem nums_text (t m r s k : Int) (h : isState t m r s k = true) : nums (textStr t m r s k) = stateText t m r s k := by
  obtain ⟨a1, a2, a3, a4, a5⟩ := isState_iff.1 h
  rw [ts_0 h]
  unfold stateText
  rw [if_neg (by rw [h]; simp)]
  obtain ⟨t, rfl⟩ := Int.eq_ofNat_of_zero_le a1.1
  obtain ⟨m, rfl⟩ := Int.eq_ofNat_of_zero_le a2.1
  obtain ⟨r, rfl⟩ := Int.eq_ofNat_of_zero_le a3.1
  obtain ⟨s, rfl⟩ := Int.eq_ofNat_of_zero_le a4.1
  obtain ⟨k, rfl⟩ := Int.eq_ofNat_of_zero_le a5.1
  rw [slashed_five]
  simp only [nums_append, nums_dec, nums_slash, Int.toNat_natCast, List.append_assoc, List.nil_append, List.cons_append]
/-- The parts that impl.ReadState looks at. -/
def partsOf (s : ByteArray) : List ByteArray := Lib.splitB ⟨#[47]⟩ 0 (min 5 (s.size + 1) - 1) s
def parsed (p : ByteArray) : Int := match Lib.parseIntB 64 p.data.toList with | .ok v => v | _ => 0
theorem read_key {s : ByteArray} {t m r k l : Int} (h : readState (nums s) = some (t, m, r, k, l)) :
    isState t m r k l = true ∧ textStr t m r k l = s ∧ ∃ a b c d e : Nat, t = a ∧ m = b ∧ r = c ∧ k = d ∧ l = e ∧ partsOf s = [decStr a, decStr b, decStr c, decStr d, decStr e] ∧ a < 4294967296 ∧ b < 4294967296 ∧ c < 4294967296 ∧ d < 4294967296 ∧ e < 4294967296 := by
  obtain ⟨hs, ht⟩ := text_read h
  have e1 : textStr t m r k l = s := nums_inj (by rw [nums_text _ _ _ _ _ hs]; exact ht)
  refine ⟨hs, e1, ?_⟩
  obtain ⟨a1, a2, a3, a4, a5⟩ := isState_iff.1 hs
  obtain ⟨a, rfl⟩ := Int.eq_ofNat_of_zero_le a1.1
  obtain ⟨b, rfl⟩ := Int.eq_ofNat_of_zero_le a2.1
  obtain ⟨c, rfl⟩ := Int.eq_ofNat_of_zero_le a3.1
  obtain ⟨d, rfl⟩ := Int.eq_ofNat_of_zero_le a4.1
  obtain ⟨e, rfl⟩ := Int.eq_ofNat_of_zero_le a5.1
  refine ⟨a, b, c, d, e, rfl, rfl, rfl, rfl, rfl, ?_, by omega, by omega, by omega, by omega, by omega⟩
  have e2 : s = slashed [(a : Int), (b : Int), (c : Int), (d : Int), (e : Int)] := by rw [← e1, ts_0 hs]
  have hsz : 4 ≤ s.size := by
    rw [e2, slashed_five]
    simp only [ByteArray.size_append]
    have : (ByteArray.mk #[47]).size = 1 := rfl
    omega
  unfold partsOf
  rw [show min 5 (s.size + 1) - 1 = 4 by omega, e2, split_slashed]
theorem parsed_dec (n : Nat) (hn : n < 4294967296) : parsed (decStr n) = n := by unfold parsed; rw [parse_dec n (by omega)]
/-- Not five parts: no state. -/
theorem read_A {s : ByteArray} (h : (partsOf s).length ≠ 5) : readState (nums s) = none := by
  rcases hr : readState (nums s) with _ | ⟨t, m, r, k, l⟩
  · rfl
  · obtain ⟨_, _, a, b, c, d, e, _, _, _, _, _, hp, _⟩ := read_key hr
    rw [hp] at h
    exact absurd rfl h
/-- A part that is no number: no state. -/
theorem read_B {s p : ByteArray} (hp : p ∈ partsOf s) (h : ∀ v, Lib.parseIntB 64 p.data.toList ≠ .ok v) : readState (nums s) = none := by
  rcases hr : readState (nums s) with _ | ⟨t, m, r, k, l⟩
  · rfl
  · obtain ⟨_, _, a, b, c, d, e, _, _, _, _, _, hq, h1, h2, h3, h4, h5⟩ := read_key hr
    rw [hq] at hp
    simp only [List.mem_cons, List.not_mem_nil, or_false] at hp
    rcases hp with rfl | rfl | rfl | rfl | rfl
    · exact absurd (parse_dec a (by omega)) (h _)
    · exact absurd (parse_dec b (by omega)) (h _)
    · exact absurd (parse_dec c (by omega)) (h _)
    · exact absurd (parse_dec d (by omega)) (h _)
    · exact absurd (parse_dec e (by omega)) (h _)
/-- Five parts that are numbers: a state, if its text is the string. -/
theorem read_C {s p0 p1 p2 p3 p4 : ByteArray} (hp : partsOf s = [p0, p1, p2, p3, p4]) :
    readState (nums s) = if (textStr (parsed p0) (parsed p1) (parsed p2) (parsed p3) (parsed p4)).toList == s.toList then some (parsed p0, parsed p1, parsed p2, parsed p3, parsed p4) else none := by
  by_cases ht : textStr (parsed p0) (parsed p1) (parsed p2) (parsed p3) (parsed p4) = s
  · rw [if_pos ((Lib.bytes_beq_iff _ _).2 ht)]
    cases hs : isState (parsed p0) (parsed p1) (parsed p2) (parsed p3) (parsed p4)
    · rw [ts_1 hs] at ht
      subst ht
      have h1 : (partsOf ByteArray.empty).length = 1 := rfl
      rw [hp] at h1
      exact absurd h1 (by simp)
    · have := read_text hs
      rw [← nums_text _ _ _ _ _ hs, ht] at this
      exact this
  · rw [if_neg (fun e => ht ((Lib.bytes_beq_iff _ _).1 e))]
    rcases hr : readState (nums s) with _ | ⟨t, m, r, k, l⟩
    · rfl
    · obtain ⟨_, he, a, b, c, d, e, rfl, rfl, rfl, rfl, rfl, hq, h1, h2, h3, h4, h5⟩ := read_key hr
      rw [hp] at hq
      simp only [List.cons.injEq, and_true] at hq
      obtain ⟨rfl, rfl, rfl, rfl, rfl⟩ := hq
      rw [parsed_dec _ h1, parsed_dec _ h2, parsed_dec _ h3, parsed_dec _ h4, parsed_dec _ h5] at ht
      exact absurd he ht
end Go.Proofs.YtkidhilipeoliaaDoor
