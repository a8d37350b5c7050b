/-
  slices.SortStableFunc of demands: rotate, insertion sort.
-/
import Derived.Test.YtbbodgeoenjdkaaSm1
import Derived.Test.YtbbodgeoenjdkaaSm2
namespace Go.Proofs.Ytbbodgeoenjdkaa
open Go.RowKit

set_option maxRecDepth 100000 in
set_option maxHeartbeats 4000000 in
set_option linter.unusedSimpArgs false in
theorem rotate_any (w0 w : World) (base g N cap : Nat) (f : Nat → Dm) (h : SoAt w0 w base g N cap f) (hN : N ≤ 1048576) (a m b : Nat) (h1 : a < m) (h2 : m < b) (h3 : b ≤ N) (c : Value) :
    Calls Try.prog 88 #[.slice (some ⟨g, 0, none⟩) N cap, .int .i64 (a : Int), .int .i64 (m : Int), .int .i64 (b : Int), c] w fun e w' => e = .returned (.tuple #[]) ∧ SoAt w0 w' base g N cap (rot f a m b) := by
  have H := Lib.hid h; clear h
  go_enter Try.func88, Try.ntmps88
  have e1 : (m : Int) - (a : Int) = ((m - a : Nat) : Int) := by omega
  have e2 : (b : Int) - (m : Int) = ((b - m : Nat) : Int) := by omega
  go_upto_region 2 with fail
  clear e1 e2
  go_loopw [10, 11] (fun s10 s11 wr => ∃ (i j : Nat) (k : Nat → Dm), s10 = .int .i64 (i : Int) ∧ s11 = .int .i64 (j : Int) ∧ 0 < i ∧ 0 < j ∧ i ≤ m ∧ m + j ≤ N ∧ Hid (SoAt w0 wr base g N cap k) ∧ Hid (rot k (m - i) m (m + j) = rot f a m b)) (fun s10 s11 _ => (intOf s10).toNat + (intOf s11).toNat)
  case atStart => exact ⟨m - a, b - m, f, rfl, rfl, by omega, by omega, by omega, by omega, H.out, (show rot f (m - (m - a)) m (m + (b - m)) = rot f a m b by rw [show m - (m - a) = a from by omega, show m + (b - m) = b from by omega])⟩
  case round =>
    clear H
    obtain ⟨i, j, k, rfl, rfl, hi0, hj0, him, hjn, H, HE⟩ := hrel
    have e3 : (m : Int) - (i : Int) = ((m - i : Nat) : Int) := by omega
    by_cases hij : i = j
    · subst hij
      have hcc : ((i : Int) != (i : Int)) = false := by simp
      have HC := Lib.hid (fun W (hW : SoAt w0 W base g N cap k) => swapRange_any w0 W base g N cap k hW hN (m - i) m i (by omega) hjn c)
      have HF := Lib.hid ((rot_same k him).trans HE.out)
      clear HE
      go_wp2_with fail
      refine (HC.out _ H.out).mono ?_
      rintro e w1 ⟨rfl, s1⟩
      rw [HF.out] at s1
      have HS := Lib.hid s1
      clear s1 H
      go_wp2
      go_end0
      exact ⟨rfl, HS.out⟩
    · have hne : ((i : Int) != (j : Int)) = true := by simp; omega
      by_cases hgt : j < i
      · have HC := Lib.hid (fun W (hW : SoAt w0 W base g N cap k) => swapRange_any w0 W base g N cap k hW hN (m - i) m j (by omega) hjn c)
        have HF := Lib.hid ((rot_left k hgt him).trans HE.out)
        have hgt' : (j : Int) < (i : Int) := by omega
        have e4 : (i : Int) - (j : Int) = ((i - j : Nat) : Int) := by omega
        clear HE hij
        go_wp2_with fail
        refine (HC.out _ H.out).mono ?_
        rintro e w1 ⟨rfl, s1⟩
        have HS := Lib.hid s1
        clear s1 H
        go_wp2
        go_roundw
        case rel => exact ⟨i - j, j, _, by rw [← e4], rfl, by omega, by omega, by omega, by omega, HS.out, HF.out⟩
        case measure => simp [intOf]; omega
      · have HC := Lib.hid (fun W (hW : SoAt w0 W base g N cap k) => swapRange_any w0 W base g N cap k hW hN (m - i) (m + j - i) i (by omega) (by omega) c)
        have HF := Lib.hid ((rot_right k (show i < j by omega) him).trans HE.out)
        have hle : ¬ (j : Int) < (i : Int) := by omega
        have HLT := Lib.hid (show i < j by omega)
        have e4 : (j : Int) - (i : Int) = ((j - i : Nat) : Int) := by omega
        have e5 : (m : Int) + (j : Int) - (i : Int) = ((m + j - i : Nat) : Int) := by omega
        clear HE hij hgt
        go_wp2_with fail
        refine (HC.out _ H.out).mono ?_
        rintro e w1 ⟨rfl, s1⟩
        have HS := Lib.hid s1
        clear s1 H
        go_wp2
        go_roundw
        case rel => exact ⟨i, j - i, _, rfl, by rw [← e4], by omega, by have := HLT.out; omega, by omega, by omega, HS.out, HF.out⟩
        case measure => have := HLT.out; simp [intOf]; omega
set_option maxRecDepth 100000 in
set_option maxHeartbeats 4000000 in
set_option linter.unusedSimpArgs false in
theorem insertion_any (w0 w : World) (base g N cap : Nat) (f : Nat → Dm) (h : SoAt w0 w base g N cap f) (hN : N ≤ 1048576) (a b : Nat) (h1 : a ≤ b) (h2 : b ≤ N) :
    Calls Try.prog 86 #[.slice (some ⟨g, 0, none⟩) N cap, .int .i64 (a : Int), .int .i64 (b : Int), .func (.func 57) #[] #[]] w fun e w' => e = .returned (.tuple #[]) ∧ ∃ k, SoAt w0 w' base g N cap k ∧ MgF N f k a b := by
  have H := Lib.hid h; clear h
  have HC := Lib.hid (fun x y W => before_any x y W)
  go_enter Try.func86, Try.ntmps86
  go_wp2
  go_loopw [8] (fun s8 wr => ∃ (i : Nat) (k : Nat → Dm), s8 = .int .i64 (i : Int) ∧ a + 1 ≤ i ∧ (i ≤ b ∨ i = a + 1) ∧ Hid (SoAt w0 wr base g N cap k) ∧ Hid (MgF N f k a (min i b))) (fun s8 _ => b - (intOf s8).toNat)
  case atStart => exact ⟨a + 1, f, by go_num, by omega, by omega, H.out, MgF.refl (by omega)⟩
  case round =>
    clear H
    obtain ⟨i, k, rfl, hi1, hi2, H, HM⟩ := hrel
    by_cases hlt : i < b
    · rw [show min i b = i from by omega] at HM
      have hiN : i + 1 ≤ N := by omega
      go_wp2
      go_loopw [9] (fun s9 wk => ∃ (j : Nat), s9 = .int .i64 (j : Int) ∧ a ≤ j ∧ j ≤ i ∧ Hid (SoAt w0 wk base g N cap (rot k j i (i + 1))) ∧ Hid (∀ x, j ≤ x → x < i → (k i).every < (k x).every)) (fun s9 _ => (intOf s9).toNat)
      case atStart => exact ⟨i, rfl, by omega, by omega, by rw [rot_none k i (i + 1) (by omega)]; exact H.out, fun x h1 h2 => absurd h1 (by omega)⟩
      case round =>
        clear H
        obtain ⟨j, rfl, hja, hji, H, HL⟩ := hrel
        by_cases hj0 : j = a
        · have hd : decide ((a : Int) < (j : Int)) = false := decide_eq_false (by omega)
          have HF := Lib.hid (HM.out.trans (mg_insert hja hji hiN HM.out.sd HL.out (.inl hj0)) (Nat.le_refl _) (by omega))
          have HSQ := Lib.hid (fun n => H.out.still (below_drewN' (Below.refl _ _) n))
          go_wp2
          go_quiet (fail)
          go_wp2
          go_roundw
          case rel => exact ⟨i + 1, _, by go_num, by omega, by omega, HSQ.out _, by rw [show min (i + 1) b = i + 1 from by omega]; exact HF.out⟩
          case measure => simp [intOf]; omega
        · obtain ⟨l, hl⟩ : ∃ l, j = l + 1 := ⟨j - 1, by omega⟩
          have hd : decide ((a : Int) < (j : Int)) = true := decide_eq_true (by omega)
          have e1 : (j : Int) - 1 = (l : Int) := by omega
          have ew : IntKind.i64.wrap ((j : Int) - 1) = (l : Int) := by rw [IntKind.wrap_i64]; omega
          have ew2 : IntKind.i64.wrap (l : Int) = (l : Int) := by rw [IntKind.wrap_i64]; omega
          have b0 : (0 : Int) ≤ (l : Int) := by omega
          have b1 : (l : Int) < (N : Int) := by omega
          have b2 : (0 : Int) ≤ (j : Int) := by omega
          have b3 : (j : Int) < (N : Int) := by omega
          have l1 : j < N := by omega
          have l2 : l < N := by omega
          have l3 : (a : Int) < (j : Int) := by omega
          have i1 := H.out.in_ (i := j) (by omega)
          have i2 := H.out.in_ (i := l) (by omega)
          have HSQ := Lib.hid (fun W (hb : Below wr.heap.size wr W) => H.out.still hb)
          have HSW := Lib.hid (fun W (hb : Below wr.heap.size wr W) => (by
            have h := (H.out.still hb).swap (i := j) (j := l) l1 l2
            rw [rot_lo k (x := j) (by omega) (by omega), show j + (i - j) = i from by omega, rot_out k (x := l) (by omega) (by omega) (by omega), show swp (rot k j i (i + 1)) j l = rot k l i (i + 1) by rw [hl]; exact rot_down k (by omega)] at h
            exact h : SoAt w0 (setDm (setDm W g (j * 3) (k l)) g (l * 3) (k i)) base g N cap (rot k l i (i + 1))))
          rw [rot_lo k (by omega) (by omega), show j + (i - j) = i from by omega] at i1
          rw [rot_out k (by omega) (by omega) (by omega)] at i2
          have HC2 := Lib.hid (HC.out (k i) (k l))
          have HSS := Lib.hid (fun W (hb : Below wr.heap.size wr W) => And.intro (i1.below hb i1.lt).all (i2.below hb i2.lt).all)
          obtain ⟨z, hz⟩ : ∃ z, cmpI (k i).every (k l).every = z := ⟨_, rfl⟩
          rw [hz] at HC2
          have hzk := cmpI_neg (a := (k i).every) (b := (k l).every)
          rw [hz] at hzk
          have HEX := Lib.hid (fun (h : ¬ z < 0) => HM.out.trans (mg_insert hja hji hiN HM.out.sd HL.out (.inr (by rw [hl, Nat.add_sub_cancel]; have := fun h2 => h (hzk.2 h2); omega))) (Nat.le_refl _) (by omega))
          have HGO := Lib.hid (fun (h : z < 0) x (x1 : l ≤ x) (x2 : x < i) => (by
            by_cases e : x = l
            · rw [e]; exact hzk.1 h
            · exact HL.out x (by omega) x2 : (k i).every < (k x).every))
          have HJL := Lib.hid hl
          clear hz hzk i1 i2 HL hl
          generalize hxe : k i = x at HC2 HSS HSW
          generalize k l = y at HC2 HSS HSW
          obtain ⟨x0, x1, x2⟩ := x
          obtain ⟨y0, y1, y2⟩ := y
          have HXE := Lib.hid (congrArg Dm.every hxe)
          clear hxe
          unfold dmVal at HC2
          dsimp only at HC2 HSS
          unfold setDm at HSW
          dsimp only at HSW
          by_cases hz : z < 0
          · have HG := Lib.hid (HGO.out hz)
            clear HGO HEX
            go_wp2
            go_region_held3 (fun w' => (w'.cell? ⟨g, j * 3, none⟩ = some (.int .i64 x0) ∧ w'.cell? ⟨g, j * 3 + 1, none⟩ = some (.int .i64 x1) ∧ w'.cell? ⟨g, j * 3 + 2, none⟩ = some (.int .i64 x2)) ∧ (w'.cell? ⟨g, l * 3, none⟩ = some (.int .i64 y0) ∧ w'.cell? ⟨g, l * 3 + 1, none⟩ = some (.int .i64 y1) ∧ w'.cell? ⟨g, l * 3 + 2, none⟩ = some (.int .i64 y2)))
            (first | exact HSS.out _ (Below.refl _ _).drew | exact HSS.out _ B5.out)
            (first
              | (go_at_call 57; (refine (HC2.out _).mono ?_); rintro e w5 ⟨rfl, b5⟩; have B5 := Lib.hid (below_two (Below.refl wr.heap.size wr).drew b5); clear b5))
            obtain ⟨⟨c0, c1, c2⟩, ⟨d0, d1, d2⟩⟩ := HSS.out _ B5.out
            have hfz := (HSQ.out _ B5.out).fz
            have HN := Lib.hid (HSW.out _ B5.out)
            clear HSW HSS HSQ HC2 B5
            go_wp2
            go_region
            go_wp2
            go_roundw
            case rel => exact ⟨l, rfl, by have := HJL.out; omega, by have := HJL.out; omega, HN.out.still (Below.drew (Below.refl _ _)), fun q h1 h2 => HXE.out ▸ HG.out q h1 h2⟩
            case measure => have := HJL.out; simp [intOf]; omega
          · have HE := Lib.hid (HEX.out hz)
            clear HGO HEX
            go_wp2
            go_region_held3 (fun w' => (w'.cell? ⟨g, j * 3, none⟩ = some (.int .i64 x0) ∧ w'.cell? ⟨g, j * 3 + 1, none⟩ = some (.int .i64 x1) ∧ w'.cell? ⟨g, j * 3 + 2, none⟩ = some (.int .i64 x2)) ∧ (w'.cell? ⟨g, l * 3, none⟩ = some (.int .i64 y0) ∧ w'.cell? ⟨g, l * 3 + 1, none⟩ = some (.int .i64 y1) ∧ w'.cell? ⟨g, l * 3 + 2, none⟩ = some (.int .i64 y2)))
            (first | exact HSS.out _ (Below.refl _ _).drew | exact HSS.out _ B5.out)
            (first
              | (go_at_call 57; (refine (HC2.out _).mono ?_); rintro e w5 ⟨rfl, b5⟩; have B5 := Lib.hid (below_two (Below.refl wr.heap.size wr).drew b5); clear b5))
            go_wp2
            go_roundw
            case rel => exact ⟨i + 1, _, by go_num, by omega, by omega, HSQ.out _ B5.out, by rw [show min (i + 1) b = i + 1 from by omega]; exact HE.out⟩
            case measure => simp [intOf]; omega
    · have HF : MgF N f k a b := by
        by_cases e : i ≤ b
        · rw [show min i b = b from by omega] at HM
          exact HM.out
        · have h := HM.out
          rw [show min i b = b from by omega] at h
          exact h
      have HF := Lib.hid HF
      go_wp2
      go_end0
      exact ⟨rfl, k, H.out, HF.out⟩
end Go.Proofs.Ytbbodgeoenjdkaa
