/-
  Chapter 4: spec.l01Split: the words of a string between slashes.
-/
import Derived.Test.YtkidhilipeoliaaDoorC4t
namespace Go.Proofs.YtkidhilipeoliaaDoor
open Go.RowKit
theorem infoStr : (Tryd.prog.info? 9).map (fun i => (i.zero, i.size, i.bytes)) = some (some (.string ByteArray.empty), 1, 16) := by kernel_rfl
/-- What a call leaves that makes one slice of strings. -/
def MakesS (E : Nat) (w : World) (xs : List ByteArray) (e : Ending) (w' : World) : Prop := ∃ v, e = .returned v ∧ OwnS E w' w.heap.size v xs ∧ Below w.heap.size w w'
def cutAt (s : ByteArray) (k : Nat) : Bool := decide (k = s.size) || slashAt s k
def startC (s : ByteArray) : Nat → Nat
  | 0 => 0
  | k + 1 => if cutAt s k then k + 1 else startC s k
def doneC (s : ByteArray) : Nat → List ByteArray
  | 0 => []
  | k + 1 => if cutAt s k then doneC s k ++ [s.extract (startC s k) k] else doneC s k
theorem doneC_hit {s : ByteArray} {k : Nat} (h : cutAt s k = true) : doneC s (k + 1) = doneC s k ++ [s.extract (startC s k) k] := by
  show (if cutAt s k then doneC s k ++ [s.extract (startC s k) k] else doneC s k) = _
  rw [if_pos h]
theorem doneC_miss {s : ByteArray} {k : Nat} (h : cutAt s k = false) : doneC s (k + 1) = doneC s k := by
  show (if cutAt s k then doneC s k ++ [s.extract (startC s k) k] else doneC s k) = _
  rw [if_neg (by rw [h]; simp)]
theorem startC_hit {s : ByteArray} {k : Nat} (h : cutAt s k = true) : startC s (k + 1) = k + 1 := by
  show (if cutAt s k then k + 1 else startC s k) = _
  rw [if_pos h]
theorem startC_miss {s : ByteArray} {k : Nat} (h : cutAt s k = false) : startC s (k + 1) = startC s k := by
  show (if cutAt s k then k + 1 else startC s k) = _
  rw [if_neg (by rw [h]; simp)]
theorem startC_le (s : ByteArray) : ∀ k, startC s k ≤ k
  | 0 => Nat.le_refl _
  | k + 1 => by
    have := startC_le s k
    cases h : cutAt s k
    · rw [startC_miss h]; omega
    · rw [startC_hit h]; omega
theorem doneC_len (s : ByteArray) : ∀ k, (doneC s k).length ≤ k
  | 0 => Nat.le_refl _
  | k + 1 => by
    have := doneC_len s k
    cases h : cutAt s k
    · rw [doneC_miss h]; omega
    · rw [doneC_hit h, List.length_append]; simp; exact this
theorem cut_inside {s : ByteArray} {k : Nat} (h : k < s.size) : cutAt s k = slashAt s k := by
  unfold cutAt
  rw [decide_eq_false (by omega)]; rfl
theorem doneC_at (s : ByteArray) : ∀ k, k ≤ s.size → doneC s k = doneAt s k ∧ startC s k = startAt s k
  | 0, _ => ⟨rfl, rfl⟩
  | k + 1, hk => by
    obtain ⟨h1, h2⟩ := doneC_at s k (by omega)
    have e := cut_inside (s := s) (k := k) (by omega)
    cases h : slashAt s k
    · rw [doneC_miss (e.trans h), startC_miss (e.trans h), done_miss h, start_miss h]; exact ⟨h1, h2⟩
    · rw [doneC_hit (e.trans h), startC_hit (e.trans h), done_hit h, start_hit h, h1, h2]; exact ⟨rfl, rfl⟩
theorem doneC_all (s : ByteArray) : doneC s (s.size + 1) = words s := by
  obtain ⟨h1, h2⟩ := doneC_at s s.size (Nat.le_refl _)
  rw [doneC_hit (by unfold cutAt; simp), h1, h2]
  rfl
set_option maxRecDepth 100000 in
theorem l01Split_any (s : ByteArray) (w : World) (hn : s.size ≤ 1048576) : Calls Tryd.prog 35 #[.string s, .int .u8 47] w (MakesS 9 w (words s)) := by
  go_enter Tryd.func35, Tryd.ntmps35
  go_wp2
  have O0 : OwnS 9 (w.alloc (.cells #[] 9)) w.heap.size (.slice (some ⟨w.heap.size, 0, none⟩) 0 0) (doneC s 0) := OwnS.of_alloc_nil (Nat.le_refl _)
  have B0 : Below w.heap.size w (w.alloc (.cells #[] 9)) := (Below.refl _ _).alloc (Nat.le_refl _) _
  go_loopw [5, 6, 7] (fun o f i wr => ∃ k : Nat, k ≤ s.size + 1 ∧ i = .int .i64 k ∧ f = .int .i64 (startC s k : Nat) ∧ OwnS 9 wr w.heap.size o (doneC s k) ∧ Below w.heap.size w wr) (fun _ _ i _ => s.size + 1 - (intOf i).toNat)
  case atStart => exact ⟨0, Nat.zero_le _, rfl, rfl, O0, B0⟩
  case round =>
    clear O0 B0
    obtain ⟨k, hk, rfl, rfl, hown, hbel⟩ := hrel
    by_cases hlt : k ≤ s.size
    · have hkk : (k : Int) ≤ (s.size : Int) := by omega
      have hsl := startC_le s k
      have hdl := doneC_len s k
      obtain ⟨f, hf⟩ : ∃ f, startC s k = f := ⟨_, rfl⟩
      obtain ⟨ds, hds⟩ : ∃ ds, doneC s k = ds := ⟨_, rfl⟩
      have hdl2 : ds.length ≤ 4294967296 := by rw [← hds]; omega
      rw [hf] at hsl ⊢
      rw [hds] at hown
      have HF := Lib.hid hf; clear hf
      have HD := Lib.hid hds; clear hds hdl
      have HO := Lib.hid hown; clear hown
      have HB := Lib.hid hbel; clear hbel
      have HL := Lib.hid hdl2; clear hdl2
      have hf0 : (0 : Int) ≤ (f : Int) := by omega
      have hfk : (f : Int) ≤ (k : Int) := by omega
      have hbs := HB.out.size
      have HW : w.heap.size ≤ wr.heap.size := hbs
      by_cases he : k = s.size
      · have hc : cutAt s k = true := by unfold cutAt; rw [decide_eq_true he]; rfl
        have HC := Lib.hid hc; clear hc
        have t1 : ((k : Int) == (s.size : Int)) = true := by rw [he]; simp
        have HE := Lib.hid he; clear he
        clear hbs
        go_wp2_with (at_builtin; refine append_str _ rfl (.tmp 26) (.tmp 31) rfl w.heap.size Tryd.underlying50 infoStr _ _ rfl (HO.out.below ((Below.refl _ _).alloc (Nat.le_refl _) _)) _ _ _ rfl (new_cell rfl) HL.out (by simp; omega) ?_; intro v' w' hown hb2)
        have O1 := Lib.hid hown; clear hown
        have B1 := Lib.hid hb2; clear hb2
        go_wp2
        go_roundw
        case rel => exact ⟨k + 1, by omega, by go_num, by rw [startC_hit HC.out]; go_num, by rw [doneC_hit HC.out, HD.out, HF.out]; simpa using O1.out, (HB.out.alloc HW _).trans B1.out⟩
        case measure => simp [intOf]; omega
      · have hlt2 : k < s.size := by omega
        have t1 : ((k : Int) == (s.size : Int)) = false := by simp; omega
        have hng := nums_getD s k hlt2
        have hci := cut_inside hlt2
        obtain ⟨c, hc⟩ : ∃ c : Int, ((s[k]'hlt2).toNat : Int) = c := ⟨_, rfl⟩
        rw [hc] at hng
        have hsa : slashAt s k = (c == 47) := by unfold slashAt; rw [hng]
        rw [hsa] at hci
        have HCI := Lib.hid hci; clear hci hsa hng
        have HE := Lib.hid he; clear he
        clear hbs
        by_cases h47 : c = 47
        · have t2 : (c == 47) = true := by simp [h47]
          have hcc : cutAt s k = true := by rw [HCI.out, t2]
          have HC := Lib.hid hcc; clear hcc h47
          go_wp2_with (at_builtin; refine append_str _ rfl (.tmp 26) (.tmp 31) rfl w.heap.size Tryd.underlying50 infoStr _ _ rfl (HO.out.below ((Below.refl _ _).alloc (Nat.le_refl _) _)) _ _ _ rfl (new_cell rfl) HL.out (by simp; omega) ?_; intro v' w' hown hb2)
          have O1 := Lib.hid hown; clear hown
          have B1 := Lib.hid hb2; clear hb2
          go_wp2
          go_roundw
          case rel => exact ⟨k + 1, by omega, by go_num, by rw [startC_hit HC.out]; go_num, by rw [doneC_hit HC.out, HD.out, HF.out]; simpa using O1.out, (HB.out.alloc HW _).trans B1.out⟩
          case measure => simp [intOf]; omega
        · have t2 : (c == 47) = false := by simp [h47]
          have hcc : cutAt s k = false := by rw [HCI.out, t2]
          have HC := Lib.hid hcc; clear hcc h47
          go_wp2
          go_roundw
          case rel => exact ⟨k + 1, by omega, by go_num, by rw [startC_miss HC.out, HF.out], by rw [doneC_miss HC.out, HD.out]; exact HO.out, HB.out⟩
          case measure => simp [intOf]; omega
    · have hk2 : ¬ (k : Int) ≤ (s.size : Int) := by omega
      have e : k = s.size + 1 := by omega
      rw [e, doneC_all] at hown
      have HO := Lib.hid hown; clear hown
      have HB := Lib.hid hbel; clear hbel
      clear hlt
      go_wp2
      go_ret
      exact ⟨_, rfl, HO.out, HB.out⟩
end Go.Proofs.YtkidhilipeoliaaDoor
