/-
  The draws of chapter 1: spec.l01From, l01DrawBits, l01DrawBytes, l01DrawIndices.
-/
import Derived.Test.YtadmpfmpmpdbeaaSrc
namespace Go.Proofs.Ytadmpfmpmpdbeaa
open Go.RowKit

/-- What spec.l01From leaves: a source in a new block. -/
def Opened (T : Nat) (w : World) (e : Ending) (w' : World) : Prop :=
  ∃ p, e = .returned (.pointer (some ⟨p, 0, none⟩)) ∧ w.heap.size ≤ p ∧ Src T w' p ∧ Below w.heap.size w w'

theorem from_any (ao : Option Addr) (n cap : Nat) (cs : List Int) (w : World) (hr : RdB w w.heap.size ao n cs) (hn : n ≤ 1048576) :
    Calls Try.prog 50 #[.slice ao n cap] w (Opened 79 w) := by
  have HR := Lib.hid hr; clear hr
  go_enter Try.func50, Try.ntmps50
  go_wp2
  go_loopw [4] (fun i wr => ∃ (k : Nat) (seed : Int), k ≤ n ∧ i = .int .i64 k ∧ wr.heap[w.heap.size]? = some (.cells #[.slice ao n cap, .int .i64 0, .int .i64 seed] 79 (0, 0)) ∧ 0 ≤ seed ∧ seed < 2147483647 ∧ Below w.heap.size w wr) (fun i _ => n - (intOf i).toNat)
  case atStart => exact ⟨0, 40009, Nat.zero_le _, rfl, heap_alloc_new w _, by omega, by omega, (Below.refl _ _).alloc (Nat.le_refl _) _⟩
  case round =>
    obtain ⟨k, seed, hk, rfl, hh, hs0, hs1, hbel⟩ := hrel
    have hc2 : wr.cell? ⟨w.heap.size, 2, none⟩ = some (.int .i64 seed) := cell_of_row wr w.heap.size 2 _ _ (0, 0) hh
    have hf2 : wr.frozen? ⟨w.heap.size, 2, none⟩ = false := frozen_of_row wr w.heap.size 2 _ _ hh
    have HH := Lib.hid hh; clear hh
    have HB := Lib.hid hbel
    by_cases hlt : k < n
    · by_cases h64 : k < 64
      · obtain ⟨b, off, rfl, hbp, hcode⟩ := HR.out.here (by omega)
        have hck := (hbel.cell (p := ⟨b, off + k, none⟩) hbp).trans (hcode k hlt)
        have hcb := HR.out.bound k hlt
        clear hcode hbel
        obtain ⟨c, hc⟩ : ∃ c, c = cs.getD k 0 := ⟨_, rfl⟩
        rw [← hc] at hck hcb
        clear hc
        obtain ⟨hcb0, hcb1⟩ := hcb
        go_wp2
        go_region
        go_wp2
        go_roundw
        case rel => exact ⟨k + 1, (seed * 53 + c) % 2147483647, by omega, by go_num, src_seed HH.out, by omega, by omega, (HB.out.setCell (by exact Nat.le_refl _) _).drew⟩
        case measure => simp [intOf]; omega
      · clear hbel
        go_wp2
        go_ret
        refine ⟨_, rfl, Nat.le_refl _, ⟨ao, n, cap, cs, 0, seed, HH.out, HR.out.keep fun b o h => HB.out.cell (p := ⟨b, o, none⟩) h, hn, by omega, hs0, hs1⟩, HB.out⟩
    · clear hbel
      go_wp2
      go_ret
      refine ⟨_, rfl, Nat.le_refl _, ⟨ao, n, cap, cs, 0, seed, HH.out, HR.out.keep fun b o h => HB.out.cell (p := ⟨b, o, none⟩) h, hn, by omega, hs0, hs1⟩, HB.out⟩

/-- What a draw of a list leaves: some list of at most m numbers in a new slice; of old memory only the source has been written. -/
def DrawnList (E T : Nat) (w : World) (p m : Nat) (e : Ending) (w' : World) : Prop :=
  ∃ v xs, e = .returned v ∧ Own E w' w.heap.size v xs ∧ xs.length ≤ m ∧ Src T w' p ∧ w.grownBy w' (some p)

theorem grown_of_below {w w' : World} {g : Option Nat} (h : Below w.heap.size w w') : w.grownBy w' g := ⟨h.os, h.tape, h.output, h.size, fun k hk _ => h.block k hk⟩
/-- A step that leaves all below a base alone, behind one that writes only block p. -/
theorem grown_step {a w w' : World} {p B : Nat} (h : a.grownBy w (some p)) (k : Below B w w') (hB : a.heap.size ≤ B) : a.grownBy w' (some p) :=
  ⟨k.os.trans h.os, k.tape.trans h.tape, k.output.trans h.output, Nat.le_trans h.size k.size, fun i hi hne => (k.block i (by omega)).trans (h.block i hi hne)⟩
theorem Src.belowB {T B p : Nat} {w w' : World} (h : Src T w p) (hb : Below B w w') (hp : p < B) : Src T w' p := by
  obtain ⟨ao, n, cap, cs, a, s, hh, hr, r⟩ := h
  exact ⟨ao, n, cap, cs, a, s, (hb.block p hp).trans hh, hr.keep fun b o h => hb.cell (p := ⟨b, o, none⟩) (by exact Nat.lt_trans h hp), r⟩
theorem Own.src {E base p : Nat} {w w' : World} {v : Value} {xs : List Int} (h : Own E w base v xs) (hg : w.grownBy w' (some p)) (hp : p < base) : Own E w' base v xs := by
  refine h.only hg ?_
  cases hk : v.ownBlock with
  | none => exact .inl rfl
  | some k => exact .inr (fun e => by cases e; have := (h.block _ hk).1; omega)

/-- A cell of a table that has just been laid, behind a draw. -/
theorem table_cell {w w' : World} {cs : Array Value} {t : TypeId} {p : Nat} (hg : (w.alloc (.cells cs t)).grownBy w' (some p)) (hp : p < w.heap.size) (j : Nat) : w'.cell? ⟨w.heap.size, j, none⟩ = cs[j]? := by
  rw [World.cell?_of_block (a := ⟨w.heap.size, j, none⟩) (hg.block w.heap.size (by simp) (by simp; omega)), World.cell?_alloc_at _ _ _ _ rfl]

set_option maxHeartbeats 1000000 in
theorem drawBits_any (p : Nat) (most : Int) (w : World) (hs : Src 79 w p) (hm0 : 0 ≤ most) (hm : most ≤ 1000) :
    Calls Try.prog 78 #[.pointer (some ⟨p, 0, none⟩), .int .i64 most] w (DrawnList 2 79 w p 9000) := by
  have hp := hs.lt
  go_enter Try.func78, Try.ntmps78
  go_wp2_with fail
  refine (next_any _ _ _ (hs.below ((Below.refl _ _).alloc (Nat.le_refl _) _)) (by omega)).mono ?_
  rintro e w1 ⟨n0, rfl, hn0, hn1, hn2, hs1, hg1⟩
  have o1 : Own 2 w1 w.heap.size (.slice (some ⟨w.heap.size, 0, none⟩) 0 0) [] := (Own.of_alloc_nil (Nat.le_refl _)).src hg1 hp
  have g1 : w.grownBy w1 (some p) := grown_trans (grown_of_below ((Below.refl _ _).alloc (Nat.le_refl _) _)) hg1
  have hn3 : n0 ≤ 1001 := by omega
  obtain ⟨n, rfl⟩ := Int.eq_ofNat_of_zero_le hn0
  clear hn0 hn1 hn2 hg1 hs
  go_wp2
  go_loopw [5, 6] (fun v i wr => ∃ (k : Nat) (xs : List Int), k ≤ n ∧ i = .int .i64 k ∧ xs.length = n - k ∧ Own 2 wr w.heap.size v xs ∧ Src 79 wr p ∧ w.grownBy wr (some p)) (fun _ i _ => (intOf i).toNat)
  case atStart => exact ⟨n, [], Nat.le_refl _, rfl, by simp, o1, hs1, g1⟩
  case round =>
    clear o1 hs1 g1
    obtain ⟨k, xs, hk, rfl, hxl, hown, hsr, hgr⟩ := hrel
    have hls : xs.length ≤ 4294967296 := by omega
    have hws := hgr.size
    have HX := Lib.hid hxl; clear hxl
    rcases k with _ | k
    · have hxn : xs.length ≤ 1001 := by rw [HX.out]; omega
      have hlt0 : ¬ (0 : Int) < ((0 : Nat) : Int) := by omega
      go_wp2_with fail
      refine (next_any _ _ _ hsr (by omega)).mono ?_
      rintro e w2 ⟨y, rfl, hy0, hy1, -, hs2, hg2⟩
      have o2 := hown.src hg2 hp
      have g2 := grown_trans hgr hg2
      have hw2 := g2.size
      clear hown hsr hgr hg2
      by_cases h0 : y = 0
      · subst h0
        have hlx : xs.length ≤ 4294967296 := by omega
        have hpw : p < w2.heap.size := by omega
        go_wp2_with fail
        refine (next_any _ _ _ (hs2.below ((Below.refl _ _).alloc (Nat.le_refl _) _)) (by omega)).mono ?_
        rintro e w3 ⟨z, rfl, hz0, hz1, -, hs3, hg3⟩
        have o3 := (o2.below ((Below.refl _ _).alloc (Nat.le_refl _) _)).src hg3 hp
        have g3 := grown_trans (grown_trans g2 (grown_of_below ((Below.refl _ _).alloc (Nat.le_refl _) _))) hg3
        have hw3 := g3.size
        have hct := table_cell hg3 hpw
        clear hg3 o2 g2 hs2
        have hz2 : z = 0 ∨ z = 1 := by omega
        rcases hz2 with rfl | rfl
        · have hc := hct 0
          simp only [List.getElem?_toArray, List.getElem?_cons_zero] at hc
          clear hct
          go_wp2_with (at_builtin; refine append_one _ rfl (.tmp 25) (.tmp 31) rfl w.heap.size Try.underlying26 info64 _ _ rfl (o3.below ((Below.refl _ _).alloc (Nat.le_refl _) _)) _ _ _ rfl (new_cell rfl) hlx (by simp; omega) ?_; intro v' w' hown' hbel')
          have hb' : Below w.heap.size w3 w' := ((Below.refl _ _).alloc hw3 _).trans hbel'
          go_ret
          exact ⟨_, _, rfl, hown', by rw [List.length_append, List.length_singleton]; omega, hs3.belowB hb' hp, grown_step g3 hb' (Nat.le_refl _)⟩
        · have hc := hct 1
          simp only [List.getElem?_toArray, List.getElem?_cons_succ, List.getElem?_cons_zero] at hc
          clear hct
          go_wp2_with (at_builtin; refine append_one _ rfl (.tmp 25) (.tmp 31) rfl w.heap.size Try.underlying26 info64 _ _ rfl (o3.below ((Below.refl _ _).alloc (Nat.le_refl _) _)) _ _ _ rfl (new_cell rfl) hlx (by simp; omega) ?_; intro v' w' hown' hbel')
          have hb' : Below w.heap.size w3 w' := ((Below.refl _ _).alloc hw3 _).trans hbel'
          go_ret
          exact ⟨_, _, rfl, hown', by rw [List.length_append, List.length_singleton]; omega, hs3.belowB hb' hp, grown_step g3 hb' (Nat.le_refl _)⟩
      · by_cases h1 : y = 1
        · subst h1
          clear h0
          go_wp2_with fail
          refine (next_any _ _ _ hs2 (by omega)).mono ?_
          rintro e w3 ⟨z, rfl, hz0, hz1, -, hs3, hg3⟩
          have g3 := grown_trans g2 hg3
          have hw3 := g3.size
          obtain ⟨z, rfl⟩ := Int.eq_ofNat_of_zero_le hz0
          have hz3 : z ≤ 2 := by omega
          clear hz0 hz1 hg3 o2 g2 hs2
          go_wp2_with (at_make; refine make_cap _ rfl _ _ rfl w.heap.size Try.underlying26 info64 _ _ _ _ (8191 + z) (8191 + z) rfl rfl (by omega) (by omega) (Nat.le_refl _) (by omega) hw3 ?_; intro w4 o4 b4)
          go_ret
          exact ⟨_, _, rfl, o4, by simp; omega, hs3.belowB b4 hp, grown_step g3 b4 (Nat.le_refl _)⟩
        · have t0 : (y == 0) = false := by simp [h0]
          have t1 : (y == 1) = false := by simp [h1]
          clear h0 h1
          go_wp2
          go_ret
          exact ⟨_, xs, rfl, o2, by omega, hs2, g2⟩
    · have hpos : (0 : Int) < ((k + 1 : Nat) : Int) := by omega
      go_wp2_with (first
        | (go_at_call 72; refine (next_any _ _ _ hsr (by omega)).mono ?_; rintro e w2 ⟨y, rfl, hy0, hy1, -, hs2, hg2⟩; have o2 := hown.src hg2 hp; have g2 := grown_trans hgr hg2)
        | (at_builtin; refine append_one _ rfl (.tmp 16) (.tmp 19) rfl w.heap.size Try.underlying26 info64 _ _ rfl (o2.below ((Below.refl _ _).alloc (Nat.le_refl _) _)) _ _ _ rfl (new_cell rfl) hls (by have := g2.size; simp; omega) ?_; intro v' w' hown' hbel'))
      have hb' : Below w.heap.size w2 w' := ((Below.refl _ _).alloc g2.size _).trans hbel'
      have s' := hs2.belowB hb' hp
      have g' := grown_step g2 hb' (Nat.le_refl _)
      go_roundw
      case rel => exact ⟨k, xs ++ [y], by omega, by go_num, by rw [List.length_append, HX.out, List.length_singleton]; omega, hown', s', g'⟩
      case measure => simp [intOf]
set_option maxHeartbeats 1000000 in
theorem drawBytes_any (p : Nat) (most : Int) (w : World) (hs : Src 79 w p) (hm0 : 0 ≤ most) (hm : most ≤ 1000) :
    Calls Try.prog 53 #[.pointer (some ⟨p, 0, none⟩), .int .i64 most] w (DrawnList 2 79 w p 9000) := by
  have hp := hs.lt
  go_enter Try.func53, Try.ntmps53
  go_wp2_with fail
  refine (next_any _ _ _ (hs.below ((Below.refl _ _).alloc (Nat.le_refl _) _)) (by omega)).mono ?_
  rintro e w1 ⟨n0, rfl, hn0, hn1, hn2, hs1, hg1⟩
  have o1 : Own 2 w1 w.heap.size (.slice (some ⟨w.heap.size, 0, none⟩) 0 0) [] := (Own.of_alloc_nil (Nat.le_refl _)).src hg1 hp
  have g1 : w.grownBy w1 (some p) := grown_trans (grown_of_below ((Below.refl _ _).alloc (Nat.le_refl _) _)) hg1
  have hn3 : n0 ≤ 1001 := by omega
  obtain ⟨n, rfl⟩ := Int.eq_ofNat_of_zero_le hn0
  clear hn0 hn1 hn2 hg1 hs
  go_wp2
  go_loopw [5, 6] (fun v i wr => ∃ (k : Nat) (xs : List Int), k ≤ n ∧ i = .int .i64 k ∧ xs.length = n - k ∧ Own 2 wr w.heap.size v xs ∧ Src 79 wr p ∧ w.grownBy wr (some p)) (fun _ i _ => (intOf i).toNat)
  case atStart => exact ⟨n, [], Nat.le_refl _, rfl, by simp, o1, hs1, g1⟩
  case round =>
    clear o1 hs1 g1
    obtain ⟨k, xs, hk, rfl, hxl, hown, hsr, hgr⟩ := hrel
    have hls : xs.length ≤ 4294967296 := by omega
    have hws := hgr.size
    have HX := Lib.hid hxl; clear hxl
    rcases k with _ | k
    · have hxn : xs.length ≤ 1001 := by rw [HX.out]; omega
      have hlt0 : ¬ (0 : Int) < ((0 : Nat) : Int) := by omega
      go_wp2_with fail
      refine (next_any _ _ _ hsr (by omega)).mono ?_
      rintro e w2 ⟨y, rfl, hy0, hy1, -, hs2, hg2⟩
      have o2 := hown.src hg2 hp
      have g2 := grown_trans hgr hg2
      have hw2 := g2.size
      clear hown hsr hgr hg2
      by_cases h0 : y = 0
      · subst h0
        have hlx : xs.length ≤ 4294967296 := by omega
        have hpw : p < w2.heap.size := by omega
        go_wp2_with fail
        refine (next_any _ _ _ (hs2.below ((Below.refl _ _).alloc (Nat.le_refl _) _)) (by omega)).mono ?_
        rintro e w3 ⟨z, rfl, hz0, hz1, -, hs3, hg3⟩
        have o3 := (o2.below ((Below.refl _ _).alloc (Nat.le_refl _) _)).src hg3 hp
        have g3 := grown_trans (grown_trans g2 (grown_of_below ((Below.refl _ _).alloc (Nat.le_refl _) _))) hg3
        have hw3 := g3.size
        have hct := table_cell hg3 hpw
        clear hg3 o2 g2 hs2
        have hz2 : z = 0 ∨ z = 1 := by omega
        rcases hz2 with rfl | rfl
        · have hc := hct 0
          simp only [List.getElem?_toArray, List.getElem?_cons_zero] at hc
          clear hct
          go_wp2_with (at_builtin; refine append_one _ rfl (.tmp 25) (.tmp 31) rfl w.heap.size Try.underlying26 info64 _ _ rfl (o3.below ((Below.refl _ _).alloc (Nat.le_refl _) _)) _ _ _ rfl (new_cell rfl) hlx (by simp; omega) ?_; intro v' w' hown' hbel')
          have hb' : Below w.heap.size w3 w' := ((Below.refl _ _).alloc hw3 _).trans hbel'
          go_ret
          exact ⟨_, _, rfl, hown', by rw [List.length_append, List.length_singleton]; omega, hs3.belowB hb' hp, grown_step g3 hb' (Nat.le_refl _)⟩
        · have hc := hct 1
          simp only [List.getElem?_toArray, List.getElem?_cons_succ, List.getElem?_cons_zero] at hc
          clear hct
          go_wp2_with (at_builtin; refine append_one _ rfl (.tmp 25) (.tmp 31) rfl w.heap.size Try.underlying26 info64 _ _ rfl (o3.below ((Below.refl _ _).alloc (Nat.le_refl _) _)) _ _ _ rfl (new_cell rfl) hlx (by simp; omega) ?_; intro v' w' hown' hbel')
          have hb' : Below w.heap.size w3 w' := ((Below.refl _ _).alloc hw3 _).trans hbel'
          go_ret
          exact ⟨_, _, rfl, hown', by rw [List.length_append, List.length_singleton]; omega, hs3.belowB hb' hp, grown_step g3 hb' (Nat.le_refl _)⟩
      · by_cases h1 : y = 1
        · subst h1
          clear h0
          go_wp2_with fail
          refine (next_any _ _ _ hs2 (by omega)).mono ?_
          rintro e w3 ⟨z, rfl, hz0, hz1, -, hs3, hg3⟩
          have g3 := grown_trans g2 hg3
          have hw3 := g3.size
          obtain ⟨z, rfl⟩ := Int.eq_ofNat_of_zero_le hz0
          have hz3 : z ≤ 1 := by omega
          clear hz0 hz1 hg3 o2 g2 hs2
          go_wp2_with (at_make; refine make_cap _ rfl _ _ rfl w.heap.size Try.underlying26 info64 _ _ _ _ (1024 + z) (1024 + z) rfl rfl (by omega) (by omega) (Nat.le_refl _) (by omega) hw3 ?_; intro w4 o4 b4)
          go_ret
          exact ⟨_, _, rfl, o4, by simp; omega, hs3.belowB b4 hp, grown_step g3 b4 (Nat.le_refl _)⟩
        · have t0 : (y == 0) = false := by simp [h0]
          have t1 : (y == 1) = false := by simp [h1]
          clear h0 h1
          go_wp2
          go_ret
          exact ⟨_, xs, rfl, o2, by omega, hs2, g2⟩
    · have hpos : (0 : Int) < ((k + 1 : Nat) : Int) := by omega
      go_wp2_with (first
        | (go_at_call 72; refine (next_any _ _ _ hsr (by omega)).mono ?_; rintro e w2 ⟨y, rfl, hy0, hy1, -, hs2, hg2⟩; have o2 := hown.src hg2 hp; have g2 := grown_trans hgr hg2)
        | (at_builtin; refine append_one _ rfl (.tmp 16) (.tmp 19) rfl w.heap.size Try.underlying26 info64 _ _ rfl (o2.below ((Below.refl _ _).alloc (Nat.le_refl _) _)) _ _ _ rfl (new_cell rfl) hls (by have := g2.size; simp; omega) ?_; intro v' w' hown' hbel'))
      have hb' : Below w.heap.size w2 w' := ((Below.refl _ _).alloc g2.size _).trans hbel'
      have s' := hs2.belowB hb' hp
      have g' := grown_step g2 hb' (Nat.le_refl _)
      go_roundw
      case rel => exact ⟨k, xs ++ [y], by omega, by go_num, by rw [List.length_append, HX.out, List.length_singleton]; omega, hown', s', g'⟩
      case measure => simp [intOf]

end Go.Proofs.Ytadmpfmpmpdbeaa
