/-
  Chapter 9, the model: images.
-/
import Derived.Test.YtckaknaeddiphaaK5
namespace Go.Proofs.Ytckaknaeddiphaa
open Go.RowKit

/-- The first k blocks of an image. -/
def imgTo (xs : List Int) (k : Nat) : List Int := (List.range k).flatMap (blockOf xs)
theorem imgTo_succ (xs : List Int) (k : Nat) : imgTo xs (k + 1) = imgTo xs k ++ (headOf xs k ++ three (checkOf k (headOf xs k))) := by
  unfold imgTo
  rw [List.range_succ, List.flatMap_append]
  simp [blockOf]
theorem imgTo_len (xs : List Int) (k : Nat) : (imgTo xs k).length ≤ 33 * k := by
  induction k with
  | zero => simp [imgTo]
  | succ k ih =>
    have h := block_le xs k
    have e : imgTo xs (k + 1) = imgTo xs k ++ blockOf xs k := imgTo_succ xs k
    rw [e, List.length_append]
    omega
theorem imgTo_all (xs : List Int) : imgTo xs (blocksOf xs.length) = image9 xs := rfl
theorem head_bytes {xs : List Int} (hb : isBytes xs = true) (_hn : xs.length ≤ 868) {k : Nat} (hk : k ≤ 31) : isBytes (headOf xs k) = true := by
  have hp := part_len xs k
  refine isBytes_iff.2 ⟨by rw [head_len, hp]; omega, fun x hx => ?_⟩
  unfold headOf at hx
  rw [List.mem_append] at hx
  rcases hx with hx | hx
  · rcases List.mem_cons.1 hx with rfl | hx
    · omega
    · rw [List.mem_singleton.1 hx]
      split <;> omega
  · exact (isBytes_iff.1 hb).2 x (List.mem_of_mem_drop (List.mem_of_mem_take hx))
set_option linter.unusedSimpArgs false in
set_option linter.unusedVariables false in
set_option maxHeartbeats 4000000 in
set_option maxRecDepth 100000 in
theorem l09Image_any (ao : Option Addr) (n cap : Nat) (xs : List Int) (w : World) (hr : Rd w ao n xs) (hb : isBytes xs = true) (hn : n ≤ 868) (hcap : n ≤ cap) (hcap2 : cap ≤ 9223372036854775807) :
    Calls Try.prog 39 #[.slice ao n cap] w (Makes 2 w (image9 xs)) := by
  have hl := hr.len
  have hn8 : xs.length ≤ 868 := by omega
  obtain ⟨B, hB⟩ : ∃ B, blocksOf n = B := ⟨_, rfl⟩
  have hB1 : 1 ≤ B := by rw [← hB]; exact blocks_pos _
  have hB31 : B ≤ 31 := by rw [← hB]; exact blocks_31 hn
  have hBk : ∀ k, 0 < k → (k < B ↔ 28 * k < n) := fun k hk => by unfold blocksOf at hB; omega
  have hBl : ∀ k, k < B → (k + 1 = B ↔ n ≤ 28 * k + 28) := fun k hk => by unfold blocksOf at hB; omega
  have hall : image9 xs = imgTo xs B := by rw [← imgTo_all, hl, hB]
  rw [hall]
  have HB := Lib.hid hB; have HBK := Lib.hid hBk; have HBL := Lib.hid hBl; have HXB := Lib.hid hb; have HL := Lib.hid hl; have HN8 := Lib.hid hn8
  clear hB hall hBk hBl hb hl hn8
  go_enter Try.func39, Try.ntmps39
  go_wp2
  go_loopw [3, 4] (fun v i wr => ∃ k : Nat, k ≤ B ∧ i = .int .i64 (k : Int) ∧ Hid (Own 2 wr w.heap.size v (imgTo xs k)) ∧ Hid (Below w.heap.size w wr)) (fun _ i _ => B - (intOf i).toNat)
  case atStart => exact ⟨0, Nat.zero_le _, rfl, Own.of_alloc_nil (Nat.le_refl _), (Below.refl _ _).alloc (Nat.le_refl _) _⟩
  case round =>
    obtain ⟨k, hk, rfl, hown, hbel⟩ := hrel
    by_cases hkB : k < B
    · have hin := checkOf_in k (headOf xs k)
      have hhl := head_len xs k
      have hpl := part_len xs k
      rw [HL.out] at hpl
      have hhb := head_bytes HXB.out HN8.out (k := k) (by omega)
      have hac := imgTo_len xs k
      have hsu := imgTo_succ xs k
      have hck := fun p c W h => l09Check_any k p c (headOf xs k) W (by omega) h hhb
      have hhe : headOf xs k = [(k : Int), (partOf xs k).length + (if k + 1 = B then 128 else 0)] ++ partOf xs k := by unfold headOf; rw [HL.out, HB.out]
      obtain ⟨acc, hacc⟩ : ∃ acc, imgTo xs k = acc := ⟨_, rfl⟩
      rw [hacc] at hac hsu hown
      obtain ⟨hd, hhd⟩ : ∃ hd, headOf xs k = hd := ⟨_, rfl⟩
      rw [hhd] at hin hhl hsu hck hhe
      obtain ⟨x, hx⟩ : ∃ x, checkOf k hd = x := ⟨_, rfl⟩
      rw [hx] at hin hsu hck
      have q1 : IntKind.i64.wrap (x.tdiv 65536) = x / 65536 := by rw [Int.tdiv_eq_ediv_of_nonneg hin.1, IntKind.wrap_i64]; omega
      have q2 : IntKind.i64.wrap (x.tdiv 256) = x / 256 := by rw [Int.tdiv_eq_ediv_of_nonneg hin.1, IntKind.wrap_i64]; omega
      have q3 : (x / 256).tmod 256 = x / 256 % 256 := by rw [Int.tmod_eq_emod_of_nonneg (by omega)]
      have q4 : x.tmod 256 = x % 256 := by rw [Int.tmod_eq_emod_of_nonneg hin.1]
      obtain ⟨y0, e0⟩ : ∃ y, x / 65536 = y := ⟨_, rfl⟩
      obtain ⟨y1, e1⟩ : ∃ y, x / 256 = y := ⟨_, rfl⟩
      obtain ⟨y2, e2⟩ : ∃ y, y1 % 256 = y := ⟨_, rfl⟩
      obtain ⟨y3, e3⟩ : ∃ y, x % 256 = y := ⟨_, rfl⟩
      have h3 : three x = [y0, y2, y3] := by unfold three; rw [e0, e1, e2, e3]
      rw [e0] at q1; rw [e1] at q2 q3; rw [e2] at q3; rw [e3] at q4
      rw [h3] at hsu
      obtain ⟨t, ht⟩ : ∃ t, 28 * k = t := ⟨_, rfl⟩
      have hkt : (k : Int) * 28 = (t : Int) := by omega
      have hkt2 : ((k : Int) + 1) * 28 = (t : Int) + 28 := by omega
      have hBk := HBK.out k
      have hBl := HBL.out k hkB
      rw [ht] at hpl hBk hBl
      obtain ⟨pt, hpt⟩ : ∃ pt, partOf xs k = pt := ⟨_, rfl⟩
      have hptd : (xs.drop t).take 28 = pt := by rw [← hpt, ← ht]; rfl
      rw [hpt] at hpl hhl hhe
      have Q1 := Lib.hid q1; have Q2 := Lib.hid q2; have Q3 := Lib.hid q3; have Q4 := Lib.hid q4
      have HSU := Lib.hid hsu; have HAC := Lib.hid (show acc.length ≤ 1048576 by omega); have HHL := Lib.hid (show hd.length ≤ 1048576 by omega); have HCK := Lib.hid hck
      clear q1 q2 q3 q4 e0 e1 e2 e3 h3 hin hsu hac hck hhb hx hhd hacc hpt ht
      obtain ⟨po, co, rfl, hown, -⟩ := hown.out.get
      have O0 := Lib.hid hown; have B0 := Lib.hid hbel.out
      clear hown hbel hhl
      have hrr := hr.below B0.out
      have ht9 : t ≤ 868 := by
        by_cases h0 : 0 < k
        · have := (hBk h0).1 hkB; omega
        · omega
      by_cases hn0 : n = 0
      · have hk00 : k = 0 := by have := hBk; omega
        have hpt0 : pt = [] := List.length_eq_zero_iff.1 (by omega)
        subst hpt0
        have hlast : k + 1 = B := hBl.2 (by omega)
        rw [if_pos hlast] at hhe
        subst hk00
        have HHE := Lib.hid (show [((0 : Nat) : Int), 128] ++ ([] : List Int) = hd from by rw [hhe]; simp)
        have HP : Hid (∀ W, Below wr.heap.size wr W → ∀ a, Rd W a 0 ([] : List Int)) := fun W _ a => Rd.any0
        have ht0 : t = 0 := by omega
        subst ht0
        subst hn0
        clear hhe hBk hBl hpl hptd hrr hkt hkt2
        by_cases hc0 : cap = 0
        · subst hc0
          clear hcap hcap2
          go_wp2_with (at_builtin; (refine append_list _ rfl (.tmp 43) (.tmp 44) rfl wr.heap.size Try.underlying24 info64 _ [((0 : Nat) : Int), 128] rfl (Own.of_alloc_two _ _ (Nat.le_refl _)) _ _ _ [] rfl (HP.out _ ((Below.refl _ _).alloc (Nat.le_refl _) _) _) (by simp only [List.length_cons, List.length_nil]; omega) (by simp) ?_; intro v1 w1 o1 b1; have B1 := Lib.hid (((Below.refl wr.heap.size wr).alloc (Nat.le_refl _) _).trans b1); rw [HHE.out] at o1; obtain ⟨p1, c1, rfl, o1, r1⟩ := o1.get; have O1 := Lib.hid o1; have R1 := Lib.hid r1; clear o1 r1 b1))
          refine (HCK.out _ _ _ R1.out).mono ?_
          rintro e w2 ⟨rfl, b2⟩
          have B2 := Lib.hid (below_step B1.out B1.out.size b2)
          have O2 := Lib.hid (O1.out.below b2)
          clear b2 B1 O1 R1
          have q1 := Q1.out; have q2 := Q2.out; have q3 := Q3.out; have q4 := Q4.out
          go_wp2_with (first
            | (at_builtin; refine append_list _ rfl (.tmp 50) (.tmp 58) rfl wr.heap.size Try.underlying24 info64 _ hd rfl (O2.out.below ((Below.refl _ _).alloc (Nat.le_refl _) _)) _ _ _ [y0, y2, y3] rfl (rd_three y0 y2 y3 _) (by have := HHL.out; omega) (by have := B2.out.size; simp; omega) ?_; intro v3 w3 o3 b3; have B3 := Lib.hid ((B2.out.alloc B2.out.size _).trans b3); obtain ⟨p3, c3, rfl, o3, r3⟩ := o3.get; have R3 := Lib.hid r3; clear o3 r3 b3)
            | (at_builtin; refine append_list _ rfl (.tmp 49) (.tmp 59) rfl w.heap.size Try.underlying24 info64 _ acc rfl (O0.out.below B3.out) _ _ _ (hd ++ [y0, y2, y3]) rfl R3.out (by have := HHL.out; have := HAC.out; simp; omega) (by have := B3.out.size; have := B0.out.size; omega) ?_; intro v4 w4 o4 b4))
          go_roundw
          case rel => exact ⟨0 + 1, by omega, by first | go_num | (congr 1; omega), by rw [HSU.out]; exact o4, (below_step B0.out B0.out.size B3.out).trans b4⟩
          case measure => simp [intOf]; omega
        · obtain ⟨e, rfl⟩ : ∃ e, cap = e + 1 := ⟨cap - 1, by omega⟩
          clear hcap hc0
          go_wp2_with (at_builtin; (refine append_list _ rfl (.tmp 43) (.tmp 44) rfl wr.heap.size Try.underlying24 info64 _ [((0 : Nat) : Int), 128] rfl (Own.of_alloc_two _ _ (Nat.le_refl _)) _ _ _ [] rfl (HP.out _ ((Below.refl _ _).alloc (Nat.le_refl _) _) _) (by simp only [List.length_cons, List.length_nil]; omega) (by simp) ?_; intro v1 w1 o1 b1; have B1 := Lib.hid (((Below.refl wr.heap.size wr).alloc (Nat.le_refl _) _).trans b1); rw [HHE.out] at o1; obtain ⟨p1, c1, rfl, o1, r1⟩ := o1.get; have O1 := Lib.hid o1; have R1 := Lib.hid r1; clear o1 r1 b1))
          refine (HCK.out _ _ _ R1.out).mono ?_
          rintro e w2 ⟨rfl, b2⟩
          have B2 := Lib.hid (below_step B1.out B1.out.size b2)
          have O2 := Lib.hid (O1.out.below b2)
          clear b2 B1 O1 R1
          have q1 := Q1.out; have q2 := Q2.out; have q3 := Q3.out; have q4 := Q4.out
          go_wp2_with (first
            | (at_builtin; refine append_list _ rfl (.tmp 50) (.tmp 58) rfl wr.heap.size Try.underlying24 info64 _ hd rfl (O2.out.below ((Below.refl _ _).alloc (Nat.le_refl _) _)) _ _ _ [y0, y2, y3] rfl (rd_three y0 y2 y3 _) (by have := HHL.out; omega) (by have := B2.out.size; simp; omega) ?_; intro v3 w3 o3 b3; have B3 := Lib.hid ((B2.out.alloc B2.out.size _).trans b3); obtain ⟨p3, c3, rfl, o3, r3⟩ := o3.get; have R3 := Lib.hid r3; clear o3 r3 b3)
            | (at_builtin; refine append_list _ rfl (.tmp 49) (.tmp 59) rfl w.heap.size Try.underlying24 info64 _ acc rfl (O0.out.below B3.out) _ _ _ (hd ++ [y0, y2, y3]) rfl R3.out (by have := HHL.out; have := HAC.out; simp; omega) (by have := B3.out.size; have := B0.out.size; omega) ?_; intro v4 w4 o4 b4))
          go_roundw
          case rel => exact ⟨0 + 1, by omega, by first | go_num | (congr 1; omega), by rw [HSU.out]; exact o4, (below_step B0.out B0.out.size B3.out).trans b4⟩
          case measure => simp [intOf]; omega
      · by_cases hz : k = 0
        · subst hz
          have ht0 : t = 0 := by omega
          subst ht0
          obtain ⟨r, rfl⟩ : ∃ r, n = r + 1 := ⟨n - 1, by omega⟩
          obtain ⟨e, rfl⟩ : ∃ e, cap = e + 1 := ⟨cap - 1, by omega⟩
          rw [List.drop_zero] at hptd
          by_cases hlast : 0 + 1 = B
          · have hle := hBl.1 hlast
            rw [if_pos hlast] at hhe
            have hpl2 : pt.length = r + 1 := by omega
            rw [List.take_of_length_le (by rw [HL.out]; omega)] at hptd
            have hT : Rd wr ao (r + 1) pt := by rw [← hptd]; exact hrr
            have HHE := Lib.hid (show [((0 : Nat) : Int), (r : Int) + 1 + 128] ++ pt = hd from by rw [hhe, hpl2]; push_cast; rfl)
            have HP : Hid (∀ W, Below wr.heap.size wr W → Rd W ao (r + 1) pt) := fun W h => hT.below h
            have hle2 : (r : Int) + 1 ≤ 28 := by omega
            have hb2 : (r : Int) + 1 ≤ (e : Int) + 1 := by omega
            clear hhe hBk hpl hpl2 hptd hrr hT hBl hlast hcap hcap2 hkt hkt2
            go_wp2_with (at_builtin; (refine append_list _ rfl (.tmp 43) (.tmp 44) rfl wr.heap.size Try.underlying24 info64 _ [((0 : Nat) : Int), ((r : Int) + 1 + 128)] rfl (Own.of_alloc_two _ _ (Nat.le_refl _)) _ _ _ pt rfl (HP.out _ ((Below.refl _ _).alloc (Nat.le_refl _) _)) (by simp only [List.length_cons, List.length_nil]; omega) (by simp) ?_; intro v1 w1 o1 b1; have B1 := Lib.hid (((Below.refl wr.heap.size wr).alloc (Nat.le_refl _) _).trans b1); rw [HHE.out] at o1; obtain ⟨p1, c1, rfl, o1, r1⟩ := o1.get; have O1 := Lib.hid o1; have R1 := Lib.hid r1; clear o1 r1 b1))
            refine (HCK.out _ _ _ R1.out).mono ?_
            rintro e w2 ⟨rfl, b2⟩
            have B2 := Lib.hid (below_step B1.out B1.out.size b2)
            have O2 := Lib.hid (O1.out.below b2)
            clear b2 B1 O1 R1
            have q1 := Q1.out; have q2 := Q2.out; have q3 := Q3.out; have q4 := Q4.out
            go_wp2_with (first
              | (at_builtin; refine append_list _ rfl (.tmp 50) (.tmp 58) rfl wr.heap.size Try.underlying24 info64 _ hd rfl (O2.out.below ((Below.refl _ _).alloc (Nat.le_refl _) _)) _ _ _ [y0, y2, y3] rfl (rd_three y0 y2 y3 _) (by have := HHL.out; omega) (by have := B2.out.size; simp; omega) ?_; intro v3 w3 o3 b3; have B3 := Lib.hid ((B2.out.alloc B2.out.size _).trans b3); obtain ⟨p3, c3, rfl, o3, r3⟩ := o3.get; have R3 := Lib.hid r3; clear o3 r3 b3)
              | (at_builtin; refine append_list _ rfl (.tmp 49) (.tmp 59) rfl w.heap.size Try.underlying24 info64 _ acc rfl (O0.out.below B3.out) _ _ _ (hd ++ [y0, y2, y3]) rfl R3.out (by have := HHL.out; have := HAC.out; simp; omega) (by have := B3.out.size; have := B0.out.size; omega) ?_; intro v4 w4 o4 b4))
            go_roundw
            case rel => exact ⟨0 + 1, by omega, by first | go_num | (congr 1; omega), by rw [HSU.out]; exact o4, (below_step B0.out B0.out.size B3.out).trans b4⟩
            case measure => simp [intOf]; omega
          · have hle := mt hBl.2 hlast
            rw [if_neg hlast] at hhe
            have hpl2 : pt.length = 28 := by omega
            have hT := hrr.head9 (a := 28) (by omega)
            rw [hptd] at hT
            have HHE := Lib.hid (show [((0 : Nat) : Int), 28] ++ pt = hd from by rw [hhe, hpl2]; simp)
            have HP : Hid (∀ W, Below wr.heap.size wr W → Rd W ao 28 pt) := fun W h => hT.below h
            have hle2 : ¬ (r : Int) + 1 ≤ 28 := by omega
            have hb2 : (28 : Int) ≤ (e : Int) + 1 := by omega
            clear hhe hBk hpl hpl2 hptd hrr hT hBl hlast hcap hcap2 hkt hkt2
            go_wp2_with (at_builtin; (refine append_list _ rfl (.tmp 43) (.tmp 44) rfl wr.heap.size Try.underlying24 info64 _ [((0 : Nat) : Int), 28] rfl (Own.of_alloc_two _ _ (Nat.le_refl _)) _ _ _ pt rfl (HP.out _ ((Below.refl _ _).alloc (Nat.le_refl _) _)) (by simp only [List.length_cons, List.length_nil]; omega) (by simp) ?_; intro v1 w1 o1 b1; have B1 := Lib.hid (((Below.refl wr.heap.size wr).alloc (Nat.le_refl _) _).trans b1); rw [HHE.out] at o1; obtain ⟨p1, c1, rfl, o1, r1⟩ := o1.get; have O1 := Lib.hid o1; have R1 := Lib.hid r1; clear o1 r1 b1))
            refine (HCK.out _ _ _ R1.out).mono ?_
            rintro e w2 ⟨rfl, b2⟩
            have B2 := Lib.hid (below_step B1.out B1.out.size b2)
            have O2 := Lib.hid (O1.out.below b2)
            clear b2 B1 O1 R1
            have q1 := Q1.out; have q2 := Q2.out; have q3 := Q3.out; have q4 := Q4.out
            go_wp2_with (first
              | (at_builtin; refine append_list _ rfl (.tmp 50) (.tmp 58) rfl wr.heap.size Try.underlying24 info64 _ hd rfl (O2.out.below ((Below.refl _ _).alloc (Nat.le_refl _) _)) _ _ _ [y0, y2, y3] rfl (rd_three y0 y2 y3 _) (by have := HHL.out; omega) (by have := B2.out.size; simp; omega) ?_; intro v3 w3 o3 b3; have B3 := Lib.hid ((B2.out.alloc B2.out.size _).trans b3); obtain ⟨p3, c3, rfl, o3, r3⟩ := o3.get; have R3 := Lib.hid r3; clear o3 r3 b3)
              | (at_builtin; refine append_list _ rfl (.tmp 49) (.tmp 59) rfl w.heap.size Try.underlying24 info64 _ acc rfl (O0.out.below B3.out) _ _ _ (hd ++ [y0, y2, y3]) rfl R3.out (by have := HHL.out; have := HAC.out; simp; omega) (by have := B3.out.size; have := B0.out.size; omega) ?_; intro v4 w4 o4 b4))
            go_roundw
            case rel => exact ⟨0 + 1, by omega, by first | go_num | (congr 1; omega), by rw [HSU.out]; exact o4, (below_step B0.out B0.out.size B3.out).trans b4⟩
            case measure => simp [intOf]; omega
        · have htn : t < n := (hBk (by omega)).1 hkB
          obtain ⟨r, rfl⟩ : ∃ r, n = r + 1 + t := ⟨n - t - 1, by omega⟩
          obtain ⟨e, rfl⟩ : ∃ e, cap = e + 1 + t := ⟨cap - t - 1, by omega⟩
          have hT := hrr.tail9 (a := t) (m := r + 1) rfl
          have hk0 : ((k : Int) == 0) = false := by simp; omega
          have hge1 : (t : Int) ≤ (r : Int) + 1 + (t : Int) := by omega
          have hlt : (t : Int) < (r : Int) + 1 + (t : Int) := by omega
          by_cases hlast : k + 1 = B
          · have hle := hBl.1 hlast
            rw [if_pos hlast] at hhe
            have hpl2 : pt.length = r + 1 := by omega
            rw [List.take_of_length_le (by rw [List.length_drop, HL.out]; omega)] at hptd
            rw [hptd] at hT
            have HHE := Lib.hid (show [(k : Int), (r : Int) + 1 + 128] ++ pt = hd from by rw [hhe, hpl2]; push_cast; rfl)
            have HP : Hid (∀ W, Below wr.heap.size wr W → Rd W (Option.map (fun x => x.add t) ao) (r + 1 + t - t) pt) := fun W h => by rw [Nat.add_sub_cancel]; exact hT.below h
            have hle2 : (r : Int) + 1 + (t : Int) ≤ (t : Int) + 28 := by omega
            have hb2 : (r : Int) + 1 + (t : Int) ≤ (e : Int) + 1 + (t : Int) := by omega
            clear hhe hBk hpl hpl2 hptd hrr hT hBl hlast hcap hcap2
            go_wp2_with (at_builtin; (refine append_list _ rfl (.tmp 43) (.tmp 44) rfl wr.heap.size Try.underlying24 info64 _ [(k : Int), ((r : Int) + 1 + 128)] rfl (Own.of_alloc_two _ _ (Nat.le_refl _)) _ _ _ pt rfl (HP.out _ ((Below.refl _ _).alloc (Nat.le_refl _) _)) (by simp only [List.length_cons, List.length_nil]; omega) (by simp) ?_; intro v1 w1 o1 b1; have B1 := Lib.hid (((Below.refl wr.heap.size wr).alloc (Nat.le_refl _) _).trans b1); rw [HHE.out] at o1; obtain ⟨p1, c1, rfl, o1, r1⟩ := o1.get; have O1 := Lib.hid o1; have R1 := Lib.hid r1; clear o1 r1 b1))
            refine (HCK.out _ _ _ R1.out).mono ?_
            rintro e w2 ⟨rfl, b2⟩
            have B2 := Lib.hid (below_step B1.out B1.out.size b2)
            have O2 := Lib.hid (O1.out.below b2)
            clear b2 B1 O1 R1
            have q1 := Q1.out; have q2 := Q2.out; have q3 := Q3.out; have q4 := Q4.out
            go_wp2_with (first
              | (at_builtin; refine append_list _ rfl (.tmp 50) (.tmp 58) rfl wr.heap.size Try.underlying24 info64 _ hd rfl (O2.out.below ((Below.refl _ _).alloc (Nat.le_refl _) _)) _ _ _ [y0, y2, y3] rfl (rd_three y0 y2 y3 _) (by have := HHL.out; omega) (by have := B2.out.size; simp; omega) ?_; intro v3 w3 o3 b3; have B3 := Lib.hid ((B2.out.alloc B2.out.size _).trans b3); obtain ⟨p3, c3, rfl, o3, r3⟩ := o3.get; have R3 := Lib.hid r3; clear o3 r3 b3)
              | (at_builtin; refine append_list _ rfl (.tmp 49) (.tmp 59) rfl w.heap.size Try.underlying24 info64 _ acc rfl (O0.out.below B3.out) _ _ _ (hd ++ [y0, y2, y3]) rfl R3.out (by have := HHL.out; have := HAC.out; simp; omega) (by have := B3.out.size; have := B0.out.size; omega) ?_; intro v4 w4 o4 b4))
            go_roundw
            case rel => exact ⟨k + 1, by omega, by first | go_num | (congr 1; omega), by rw [HSU.out]; exact o4, (below_step B0.out B0.out.size B3.out).trans b4⟩
            case measure => simp [intOf]; omega
          · have hle := mt hBl.2 hlast
            rw [if_neg hlast] at hhe
            have hpl2 : pt.length = 28 := by omega
            have hT2 := hT.head9 (a := 28) (by omega)
            rw [hptd] at hT2
            have HHE := Lib.hid (show [(k : Int), 28] ++ pt = hd from by rw [hhe, hpl2]; simp)
            have HP : Hid (∀ W, Below wr.heap.size wr W → Rd W (Option.map (fun x => x.add t) ao) (t + 28 - t) pt) := fun W h => by rw [Nat.add_sub_cancel_left]; exact hT2.below h
            have hle2 : ¬ ((r : Int) + 1 + (t : Int) ≤ (t : Int) + 28) := by omega
            have hb2 : (t : Int) + 28 ≤ (e : Int) + 1 + (t : Int) := by omega
            have hb3 : (t : Int) ≤ (t : Int) + 28 := by omega
            clear hhe hBk hpl hpl2 hptd hrr hT hT2 hBl hlast hcap hcap2
            go_wp2_with (at_builtin; (refine append_list _ rfl (.tmp 43) (.tmp 44) rfl wr.heap.size Try.underlying24 info64 _ [(k : Int), 28] rfl (Own.of_alloc_two _ _ (Nat.le_refl _)) _ _ _ pt rfl (HP.out _ ((Below.refl _ _).alloc (Nat.le_refl _) _)) (by simp only [List.length_cons, List.length_nil]; omega) (by simp) ?_; intro v1 w1 o1 b1; have B1 := Lib.hid (((Below.refl wr.heap.size wr).alloc (Nat.le_refl _) _).trans b1); rw [HHE.out] at o1; obtain ⟨p1, c1, rfl, o1, r1⟩ := o1.get; have O1 := Lib.hid o1; have R1 := Lib.hid r1; clear o1 r1 b1))
            refine (HCK.out _ _ _ R1.out).mono ?_
            rintro e w2 ⟨rfl, b2⟩
            have B2 := Lib.hid (below_step B1.out B1.out.size b2)
            have O2 := Lib.hid (O1.out.below b2)
            clear b2 B1 O1 R1
            have q1 := Q1.out; have q2 := Q2.out; have q3 := Q3.out; have q4 := Q4.out
            go_wp2_with (first
              | (at_builtin; refine append_list _ rfl (.tmp 50) (.tmp 58) rfl wr.heap.size Try.underlying24 info64 _ hd rfl (O2.out.below ((Below.refl _ _).alloc (Nat.le_refl _) _)) _ _ _ [y0, y2, y3] rfl (rd_three y0 y2 y3 _) (by have := HHL.out; omega) (by have := B2.out.size; simp; omega) ?_; intro v3 w3 o3 b3; have B3 := Lib.hid ((B2.out.alloc B2.out.size _).trans b3); obtain ⟨p3, c3, rfl, o3, r3⟩ := o3.get; have R3 := Lib.hid r3; clear o3 r3 b3)
              | (at_builtin; refine append_list _ rfl (.tmp 49) (.tmp 59) rfl w.heap.size Try.underlying24 info64 _ acc rfl (O0.out.below B3.out) _ _ _ (hd ++ [y0, y2, y3]) rfl R3.out (by have := HHL.out; have := HAC.out; simp; omega) (by have := B3.out.size; have := B0.out.size; omega) ?_; intro v4 w4 o4 b4))
            go_roundw
            case rel => exact ⟨k + 1, by omega, by first | go_num | (congr 1; omega), by rw [HSU.out]; exact o4, (below_step B0.out B0.out.size B3.out).trans b4⟩
            case measure => simp [intOf]; omega
    · have hkn : k = B := by omega
      subst hkn
      have hk0 : ((k : Int) == 0) = false := by simp; omega
      have hlt : ¬ ((k : Int) * 28 < (n : Int)) := by have := mt (HBK.out k (by omega)).2 hkB; omega
      have O0 := Lib.hid hown.out; have B0 := Lib.hid hbel.out
      clear hown hbel
      go_wp2
      go_ret
      exact ⟨_, rfl, O0.out, B0.out⟩
end Go.Proofs.Ytckaknaeddiphaa
