/-
  The source of numbers of the specification's draws (a struct of three fields in one block of its own), and laws.big, laws.likeInts.
  The draws of chapter 1: spec.l01From, l01DrawBits, l01DrawBytes, l01DrawIndices.
  Slices of the call's own beside a source of draws: how they are kept while draws, calls and new blocks follow one another.
  laws.likeInts; a number is read from where it has been appended, and appended as the bits from which it has been read; DrawNumberAt.
-/
import Derived.Test.YtbdfnkhmnglpbaaOne
import Derived.Test.YtbdfnkhmnglpbaaBase
import Derived.Test.YtbdfnkhmnglpbaaReg
namespace Go.Proofs.Ytbdfnkhmnglpbaa
section
open Go.RowKit

/-- The slice value at 'ao' of length n reads in w as the bytes cs, in a block below B. -/
structure RdB (w : World) (B : Nat) (ao : Option Addr) (n : Nat) (cs : List Int) : Prop where
  len : cs.length = n
  here : 0 < n → ∃ b off, ao = some ⟨b, off, none⟩ ∧ b < B ∧ ∀ i, i < n → w.cell? ⟨b, off + i, none⟩ = some (.int .u8 (cs.getD i 0))
  bound : ∀ i, i < n → 0 ≤ cs.getD i 0 ∧ cs.getD i 0 ≤ 255

section
variable {w w' : World} {B n : Nat} {ao : Option Addr} {cs : List Int}
theorem RdB.keep (h : RdB w B ao n cs) (hk : ∀ b o, b < B → w'.cell? ⟨b, o, none⟩ = w.cell? ⟨b, o, none⟩) : RdB w' B ao n cs :=
  ⟨h.len, fun hn => by
    obtain ⟨b, off, e, hb, hc⟩ := h.here hn
    exact ⟨b, off, e, hb, fun i hi => (hk _ _ hb).trans (hc i hi)⟩, h.bound⟩
theorem rdB_of_row {a : Option Addr} {len cap : Nat} {zs : List Int}
    (h : (a = none ∧ len = 0 ∧ cap = 0 ∧ zs = []) ∨ ∃ x, a = some x ∧ len ≤ cap ∧ cap ≤ maxLen ∧ zs.length = cap ∧ (∀ i, i < zs.length → w.cell? (x.add i) = some (.int .u8 (zs.getD i 0))) ∧ ∀ n ∈ zs, (Lit.int .u8 n).wf = true) :
    RdB w w.heap.size a len (zs.take len) := by
  rcases h with ⟨rfl, rfl, rfl, rfl⟩ | ⟨x, rfl, hl, hm, hz, hc, hw⟩
  · exact ⟨rfl, fun h => absurd h (by omega), fun i hi => absurd hi (by omega)⟩
  · have hg : ∀ i, i < len → (zs.take len).getD i 0 = zs.getD i 0 := fun i hi => by simp [List.getD, hi]
    refine ⟨by rw [List.length_take]; omega, fun h0 => ?_, fun i hi => ?_⟩
    · obtain ⟨b, off, spot⟩ := x
      have hspot : spot = none := by simpa [Addr.add] using World.cell?_spot (hc 0 (by omega))
      subst hspot
      have h1 : ∀ i, i < len → w.cell? ⟨b, off + i, none⟩ = some (.int .u8 ((zs.take len).getD i 0)) := fun i hi => by
        have h1 := hc i (by omega)
        rw [Addr.add_lit] at h1
        rw [h1, hg i hi]
      exact ⟨b, off, rfl, World.block_lt_of_cell? w _ (h1 0 h0), h1⟩
    · rw [hg i hi]
      have := hw (zs.getD i 0) (getD_mem' (by omega))
      simp only [Lit.wf, Bool.and_eq_true, decide_eq_true_eq] at this
      have h1 : IntKind.u8.min = 0 := rfl
      have h2 : IntKind.u8.max = 255 := rfl
      omega
end

/-- Block p is a source: a code that lies below it, how far it has been read, and a seed. T: the number of the struct's type. -/
def Src (T : Nat) (w : World) (p : Nat) : Prop :=
  ∃ (ao : Option Addr) (n cap : Nat) (cs : List Int) (at_ : Nat) (seed : Int), w.heap[p]? = some (.cells #[.slice ao n cap, .int .i64 at_, .int .i64 seed] T (0, 0)) ∧ RdB w p ao n cs ∧ n ≤ 1048576 ∧ at_ ≤ n ∧ 0 ≤ seed ∧ seed < 2147483647

section
variable {T : Nat} {w w' : World} {p : Nat}
theorem Src.lt (h : Src T w p) : p < w.heap.size := by
  obtain ⟨_, _, _, _, _, _, h, _⟩ := h
  exact (Array.getElem?_eq_some_iff.1 h).1
theorem Src.below (h : Src T w p) (hb : Below w.heap.size w w') : Src T w' p := by
  have hlt := h.lt
  obtain ⟨ao, n, cap, cs, a, s, hh, hr, r⟩ := h
  exact ⟨ao, n, cap, cs, a, s, (hb.block p hlt).trans hh, hr.keep fun b o h => hb.cell (p := ⟨b, o, none⟩) (by exact Nat.lt_trans h hlt), r⟩
theorem Src.grown {g : Option Nat} (h : Src T w p) (hb : w.grownBy w' g) (hg : ∀ k, g = some k → p < k) : Src T w' p := by
  have hlt := h.lt
  obtain ⟨ao, n, cap, cs, a, s, hh, hr, r⟩ := h
  have hne : ∀ k, k ≤ p → some k ≠ g := fun k hk e => by have := hg k e.symm; omega
  exact ⟨ao, n, cap, cs, a, s, (hb.block p hlt (hne p (Nat.le_refl _))).trans hh,
    hr.keep fun b o h => World.cell?_of_block (a := ⟨b, o, none⟩) (hb.block b (by omega) (hne b (by omega))), r⟩
end

theorem src_seed {w : World} {p T : Nat} {s a x y : Value} (h : w.heap[p]? = some (.cells #[s, a, x] T (0, 0))) : (w.setCell ⟨p, 2, none⟩ y).heap[p]? = some (.cells #[s, a, y] T (0, 0)) := by
  have := heap_setCell_same w p 2 _ _ y h
  simpa using this
theorem src_at {w : World} {p T : Nat} {s a x y : Value} (h : w.heap[p]? = some (.cells #[s, a, x] T (0, 0))) : (w.setCell ⟨p, 1, none⟩ y).heap[p]? = some (.cells #[s, y, x] T (0, 0)) := by
  have := heap_setCell_same w p 1 _ _ y h
  simpa using this
/-- What a draw leaves: a number below n (0 if n is 1 or less); only the source has been written. -/
def Drawn (T : Nat) (w : World) (p : Nat) (n : Int) (e : Ending) (w' : World) : Prop :=
  ∃ x : Int, e = .returned (.int .i64 x) ∧ 0 ≤ x ∧ (1 < n → x < n) ∧ (n ≤ 1 → x ≤ 0) ∧ Src T w' p ∧ w.grownBy w' (some p)

theorem big_no (ao : Option Addr) (n cap : Nat) (w : World) (h : n ≤ 4096) : Calls Try.prog 18 #[.slice ao n cap] w fun e w' => e = .returned (.bool false) ∧ w = w' := by
  have hd : decide ((4096 : Int) < (n : Int)) = false := decide_eq_false (by omega)
  go_enter Try.func18, Try.ntmps18
  go_wp2
  go_ret
  exact ⟨ret_bool (by first | rfl | exact hd), rfl⟩
theorem big_yes (ao : Option Addr) (n cap : Nat) (w : World) (h : ¬ n ≤ 4096) : Calls Try.prog 18 #[.slice ao n cap] w fun e w' => e = .returned (.bool true) ∧ w = w' := by
  have hd : decide ((4096 : Int) < (n : Int)) = true := decide_eq_true (by omega)
  go_enter Try.func18, Try.ntmps18
  go_wp2
  go_ret
  exact ⟨ret_bool (by first | rfl | exact hd), rfl⟩

set_option maxHeartbeats 1000000 in
theorem next_any (p : Nat) (n : Int) (w : World) (hs : Src 133 w p) (hn : n ≤ 9223372036854775807) :
    Calls Try.prog 72 #[.pointer (some ⟨p, 0, none⟩), .int .i64 n] w (Drawn 133 w p n) := by
  by_cases h1 : n ≤ 1
  · go_enter Try.func72, Try.ntmps72
    go_wp2
    go_ret
    exact ⟨0, rfl, by omega, fun h => by omega, fun _ => by omega, hs, World.grownBy.refl _ _⟩
  · obtain ⟨ao, len, cap, cs, at_, seed, hh, hr, hlen, hat, hs0, hs1⟩ := hs
    have hc0 : w.cell? ⟨p, 0, none⟩ = some (.slice ao len cap) := cell_of_row w p 0 _ _ (0, 0) hh
    have hc1 : w.cell? ⟨p, 1, none⟩ = some (.int .i64 at_) := cell_of_row w p 1 _ _ (0, 0) hh
    have hc2 : w.cell? ⟨p, 2, none⟩ = some (.int .i64 seed) := cell_of_row w p 2 _ _ (0, 0) hh
    have hf1 : w.frozen? ⟨p, 1, none⟩ = false := frozen_of_row w p 1 _ _ hh
    have hf2 : w.frozen? ⟨p, 2, none⟩ = false := frozen_of_row w p 2 _ _ hh
    have HH := Lib.hid hh; clear hh
    have HR := Lib.hid hr; clear hr
    by_cases hlt : at_ < len
    · obtain ⟨b, off, rfl, hbp, hcode⟩ := HR.out.here (by omega)
      have hck := hcode at_ hlt
      have hcb := HR.out.bound at_ hlt
      clear hcode
      obtain ⟨c, hc⟩ : ∃ c, c = cs.getD at_ 0 := ⟨_, rfl⟩
      rw [← hc] at hck hcb
      clear hc
      obtain ⟨hcb0, hcb1⟩ := hcb
      have hfin : ∀ y z : Int, 0 ≤ y → y < 2147483647 → ∀ w', (∃ q q' : Nat, w' = (((w.setCell ⟨p, 2, none⟩ (.int .i64 y)).drewN q).setCell ⟨p, 1, none⟩ (.int .i64 ((at_ : Int) + 1))).drewN q') → Drawn 133 w p n (.returned (.int .i64 (z % n))) w' := by
        rintro y z hy0 hy1 w' ⟨q, q', rfl⟩
        refine ⟨_, rfl, Int.emod_nonneg _ (by omega), fun _ => Int.emod_lt_of_pos _ (by omega), fun h => by omega, ⟨some ⟨b, off, none⟩, len, cap, cs, at_ + 1, y, ?_, ?_, hlen, by omega, hy0, hy1⟩, ?_⟩
        · exact src_at (src_seed HH.out)
        · exact HR.out.keep fun b' o h => (World.cell?_of_block (heap_setCell_other _ ⟨p, 1, none⟩ b' _ (by simp; omega))).trans (World.cell?_of_block (heap_setCell_other _ ⟨p, 2, none⟩ b' _ (by simp; omega)))
        · exact ⟨rfl, rfl, rfl, by simp [World.setCell, World.drewN], fun k _ hk => (heap_setCell_other _ ⟨p, 1, none⟩ k _ (fun e => hk (by simp [e]))).trans (heap_setCell_other _ ⟨p, 2, none⟩ k _ (fun e => hk (by simp [e])))⟩
      have HF := Lib.hid hfin; clear hfin
      by_cases h256 : n ≤ 256
      · by_cases hev : ((at_ : Int) + 1) % 2 = 0
        · have hd : (((at_ : Int) + 1) % 2 == 0) = true := by simp [hev]
          clear hev
          go_enter Try.func72, Try.ntmps72
          go_wp2
          go_quiet (fail)
          go_wp2
          go_quiet (fail)
          go_wp2
          go_quiet (fail)
          go_wp2
          go_ret
          exact HF.out _ _ (by omega) (by omega) _ ⟨_, _, rfl⟩
        · have hd : (((at_ : Int) + 1) % 2 == 0) = false := by simp [hev]
          clear hev
          go_enter Try.func72, Try.ntmps72
          go_wp2
          go_quiet (fail)
          go_wp2
          go_quiet (fail)
          go_wp2
          go_ret
          exact HF.out _ _ (by omega) (by omega) _ ⟨_, 0, rfl⟩
      · go_enter Try.func72, Try.ntmps72
        go_wp2
        go_quiet (fail)
        go_wp2
        go_quiet (fail)
        go_wp2
        go_ret
        exact HF.out _ _ (by omega) (by omega) _ ⟨_, 0, rfl⟩
    · go_enter Try.func72, Try.ntmps72
      go_wp2
      go_quiet (fail)
      go_wp2
      go_ret
      refine ⟨_, rfl, Int.emod_nonneg _ (by omega), fun _ => Int.emod_lt_of_pos _ (by omega), fun h => by omega, ⟨ao, len, cap, cs, at_, (seed * 48271 + 17) % 2147483647, ?_, ?_, hlen, hat, by omega, by omega⟩, ?_⟩
      · exact src_seed HH.out
      · exact HR.out.keep fun b o h => World.cell?_of_block (heap_setCell_other _ _ _ _ (by simp; omega))
      · exact ⟨rfl, rfl, rfl, by simp [World.setCell, World.drewN], fun k _ hk => heap_setCell_other _ _ _ _ (fun e => hk (by simp [e]))⟩
end

section
open Go.RowKit

/-- What spec.l01From leaves: a source in a new block. -/
def Opened (T : Nat) (w : World) (e : Ending) (w' : World) : Prop :=
  ∃ p, e = .returned (.pointer (some ⟨p, 0, none⟩)) ∧ w.heap.size ≤ p ∧ Src T w' p ∧ Below w.heap.size w w'

theorem from_any (ao : Option Addr) (n cap : Nat) (cs : List Int) (w : World) (hr : RdB w w.heap.size ao n cs) (hn : n ≤ 1048576) :
    Calls Try.prog 67 #[.slice ao n cap] w (Opened 133 w) := by
  have HR := Lib.hid hr; clear hr
  go_enter Try.func67, Try.ntmps67
  go_wp2
  go_loopw [4] (fun i wr => ∃ (k : Nat) (seed : Int), k ≤ n ∧ i = .int .i64 k ∧ wr.heap[w.heap.size]? = some (.cells #[.slice ao n cap, .int .i64 0, .int .i64 seed] 133 (0, 0)) ∧ 0 ≤ seed ∧ seed < 2147483647 ∧ Below w.heap.size w wr) (fun i _ => n - (intOf i).toNat)
  case atStart => exact ⟨0, 40009, Nat.zero_le _, rfl, heap_alloc_new w _, by omega, by omega, (Below.refl _ _).alloc (Nat.le_refl _) _⟩
  case round =>
    obtain ⟨k, seed, hk, rfl, hh, hs0, hs1, hbel⟩ := hrel
    have hc2 : wr.cell? ⟨w.heap.size, 2, none⟩ = some (.int .i64 seed) := cell_of_row wr w.heap.size 2 _ _ (0, 0) hh
    have hf2 : wr.frozen? ⟨w.heap.size, 2, none⟩ = false := frozen_of_row wr w.heap.size 2 _ _ hh
    have HH := Lib.hid hh; clear hh
    have HB := Lib.hid hbel
    by_cases hlt : k < n
    · by_cases h64 : k < 64
      · obtain ⟨b, off, rfl, hbp, hcode⟩ := HR.out.here (by omega)
        have hck := (hbel.cell (p := ⟨b, off + k, none⟩) hbp).trans (hcode k hlt)
        have hcb := HR.out.bound k hlt
        clear hcode hbel
        obtain ⟨c, hc⟩ : ∃ c, c = cs.getD k 0 := ⟨_, rfl⟩
        rw [← hc] at hck hcb
        clear hc
        obtain ⟨hcb0, hcb1⟩ := hcb
        go_wp2
        go_region
        go_wp2
        go_roundw
        case rel => exact ⟨k + 1, (seed * 53 + c) % 2147483647, by omega, by go_num, src_seed HH.out, by omega, by omega, (HB.out.setCell (by exact Nat.le_refl _) _).drew⟩
        case measure => simp [intOf]; omega
      · clear hbel
        go_wp2
        go_ret
        refine ⟨_, rfl, Nat.le_refl _, ⟨ao, n, cap, cs, 0, seed, HH.out, HR.out.keep fun b o h => HB.out.cell (p := ⟨b, o, none⟩) h, hn, by omega, hs0, hs1⟩, HB.out⟩
    · clear hbel
      go_wp2
      go_ret
      refine ⟨_, rfl, Nat.le_refl _, ⟨ao, n, cap, cs, 0, seed, HH.out, HR.out.keep fun b o h => HB.out.cell (p := ⟨b, o, none⟩) h, hn, by omega, hs0, hs1⟩, HB.out⟩

/-- What a draw of a list leaves: some list of at most m numbers in a new slice; of old memory only the source has been written. -/
def DrawnList (E T : Nat) (w : World) (p m : Nat) (e : Ending) (w' : World) : Prop :=
  ∃ v xs, e = .returned v ∧ Own E w' w.heap.size v xs ∧ xs.length ≤ m ∧ Src T w' p ∧ w.grownBy w' (some p)

theorem grown_of_below {w w' : World} {g : Option Nat} (h : Below w.heap.size w w') : w.grownBy w' g := ⟨h.os, h.tape, h.output, h.size, fun k hk _ => h.block k hk⟩
/-- A step that leaves all below a base alone, behind one that writes only block p. -/
theorem grown_step {a w w' : World} {p B : Nat} (h : a.grownBy w (some p)) (k : Below B w w') (hB : a.heap.size ≤ B) : a.grownBy w' (some p) :=
  ⟨k.os.trans h.os, k.tape.trans h.tape, k.output.trans h.output, Nat.le_trans h.size k.size, fun i hi hne => (k.block i (by omega)).trans (h.block i hi hne)⟩
theorem Src.belowB {T B p : Nat} {w w' : World} (h : Src T w p) (hb : Below B w w') (hp : p < B) : Src T w' p := by
  obtain ⟨ao, n, cap, cs, a, s, hh, hr, r⟩ := h
  exact ⟨ao, n, cap, cs, a, s, (hb.block p hp).trans hh, hr.keep fun b o h => hb.cell (p := ⟨b, o, none⟩) (by exact Nat.lt_trans h hp), r⟩
theorem Own.src {E base p : Nat} {w w' : World} {v : Value} {xs : List Int} (h : Own E w base v xs) (hg : w.grownBy w' (some p)) (hp : p < base) : Own E w' base v xs := by
  refine h.only hg ?_
  cases hk : v.ownBlock with
  | none => exact .inl rfl
  | some k => exact .inr (fun e => by cases e; have := (h.block _ hk).1; omega)

/-- A cell of a table that has just been laid, behind a draw. -/
theorem table_cell {w w' : World} {cs : Array Value} {t : TypeId} {p : Nat} (hg : (w.alloc (.cells cs t)).grownBy w' (some p)) (hp : p < w.heap.size) (j : Nat) : w'.cell? ⟨w.heap.size, j, none⟩ = cs[j]? := by
  rw [World.cell?_of_block (a := ⟨w.heap.size, j, none⟩) (hg.block w.heap.size (by simp) (by simp; omega)), World.cell?_alloc_at _ _ _ _ rfl]

set_option maxHeartbeats 1000000 in
theorem drawBytes_any (p : Nat) (most : Int) (w : World) (hs : Src 133 w p) (hm0 : 0 ≤ most) (hm : most ≤ 1000) :
    Calls Try.prog 90 #[.pointer (some ⟨p, 0, none⟩), .int .i64 most] w (DrawnList 2 133 w p 9000) := by
  have hp := hs.lt
  go_enter Try.func90, Try.ntmps90
  go_wp2_with fail
  refine (next_any _ _ _ (hs.below ((Below.refl _ _).alloc (Nat.le_refl _) _)) (by omega)).mono ?_
  rintro e w1 ⟨n0, rfl, hn0, hn1, hn2, hs1, hg1⟩
  have o1 : Own 2 w1 w.heap.size (.slice (some ⟨w.heap.size, 0, none⟩) 0 0) [] := (Own.of_alloc_nil (Nat.le_refl _)).src hg1 hp
  have g1 : w.grownBy w1 (some p) := grown_trans (grown_of_below ((Below.refl _ _).alloc (Nat.le_refl _) _)) hg1
  have hn3 : n0 ≤ 1001 := by omega
  obtain ⟨n, rfl⟩ := Int.eq_ofNat_of_zero_le hn0
  clear hn0 hn1 hn2 hg1 hs
  go_wp2
  go_loopw [5, 6] (fun v i wr => ∃ (k : Nat) (xs : List Int), k ≤ n ∧ i = .int .i64 k ∧ xs.length = n - k ∧ Own 2 wr w.heap.size v xs ∧ Src 133 wr p ∧ w.grownBy wr (some p)) (fun _ i _ => (intOf i).toNat)
  case atStart => exact ⟨n, [], Nat.le_refl _, rfl, by simp, o1, hs1, g1⟩
  case round =>
    clear o1 hs1 g1
    obtain ⟨k, xs, hk, rfl, hxl, hown, hsr, hgr⟩ := hrel
    have hls : xs.length ≤ 4294967296 := by omega
    have hws := hgr.size
    have HX := Lib.hid hxl; clear hxl
    rcases k with _ | k
    · have hxn : xs.length ≤ 1001 := by rw [HX.out]; omega
      have hlt0 : ¬ (0 : Int) < ((0 : Nat) : Int) := by omega
      go_wp2_with fail
      refine (next_any _ _ _ hsr (by omega)).mono ?_
      rintro e w2 ⟨y, rfl, hy0, hy1, -, hs2, hg2⟩
      have o2 := hown.src hg2 hp
      have g2 := grown_trans hgr hg2
      have hw2 := g2.size
      clear hown hsr hgr hg2
      by_cases h0 : y = 0
      · subst h0
        have hlx : xs.length ≤ 4294967296 := by omega
        have hpw : p < w2.heap.size := by omega
        go_wp2_with fail
        refine (next_any _ _ _ (hs2.below ((Below.refl _ _).alloc (Nat.le_refl _) _)) (by omega)).mono ?_
        rintro e w3 ⟨z, rfl, hz0, hz1, -, hs3, hg3⟩
        have o3 := (o2.below ((Below.refl _ _).alloc (Nat.le_refl _) _)).src hg3 hp
        have g3 := grown_trans (grown_trans g2 (grown_of_below ((Below.refl _ _).alloc (Nat.le_refl _) _))) hg3
        have hw3 := g3.size
        have hct := table_cell hg3 hpw
        clear hg3 o2 g2 hs2
        have hz2 : z = 0 ∨ z = 1 := by omega
        rcases hz2 with rfl | rfl
        · have hc := hct 0
          simp only [List.getElem?_toArray, List.getElem?_cons_zero] at hc
          clear hct
          go_wp2_with (at_builtin; refine append_one _ rfl (.tmp 25) (.tmp 31) rfl w.heap.size Try.underlying26 info64 _ _ rfl (o3.below ((Below.refl _ _).alloc (Nat.le_refl _) _)) _ _ _ rfl (new_cell rfl) hlx (by simp; omega) ?_; intro v' w' hown' hbel')
          have hb' : Below w.heap.size w3 w' := ((Below.refl _ _).alloc hw3 _).trans hbel'
          go_ret
          exact ⟨_, _, rfl, hown', by rw [List.length_append, List.length_singleton]; omega, hs3.belowB hb' hp, grown_step g3 hb' (Nat.le_refl _)⟩
        · have hc := hct 1
          simp only [List.getElem?_toArray, List.getElem?_cons_succ, List.getElem?_cons_zero] at hc
          clear hct
          go_wp2_with (at_builtin; refine append_one _ rfl (.tmp 25) (.tmp 31) rfl w.heap.size Try.underlying26 info64 _ _ rfl (o3.below ((Below.refl _ _).alloc (Nat.le_refl _) _)) _ _ _ rfl (new_cell rfl) hlx (by simp; omega) ?_; intro v' w' hown' hbel')
          have hb' : Below w.heap.size w3 w' := ((Below.refl _ _).alloc hw3 _).trans hbel'
          go_ret
          exact ⟨_, _, rfl, hown', by rw [List.length_append, List.length_singleton]; omega, hs3.belowB hb' hp, grown_step g3 hb' (Nat.le_refl _)⟩
      · by_cases h1 : y = 1
        · subst h1
          clear h0
          go_wp2_with fail
          refine (next_any _ _ _ hs2 (by omega)).mono ?_
          rintro e w3 ⟨z, rfl, hz0, hz1, -, hs3, hg3⟩
          have g3 := grown_trans g2 hg3
          have hw3 := g3.size
          obtain ⟨z, rfl⟩ := Int.eq_ofNat_of_zero_le hz0
          have hz3 : z ≤ 1 := by omega
          clear hz0 hz1 hg3 o2 g2 hs2
          go_wp2_with (at_make; refine make_cap _ rfl _ _ rfl w.heap.size Try.underlying26 info64 _ _ _ _ (1024 + z) (1024 + z) rfl rfl (by omega) (by omega) (Nat.le_refl _) (by omega) hw3 ?_; intro w4 o4 b4)
          go_ret
          exact ⟨_, _, rfl, o4, by simp; omega, hs3.belowB b4 hp, grown_step g3 b4 (Nat.le_refl _)⟩
        · have t0 : (y == 0) = false := by simp [h0]
          have t1 : (y == 1) = false := by simp [h1]
          clear h0 h1
          go_wp2
          go_ret
          exact ⟨_, xs, rfl, o2, by omega, hs2, g2⟩
    · have hpos : (0 : Int) < ((k + 1 : Nat) : Int) := by omega
      go_wp2_with (first
        | (go_at_call 72; refine (next_any _ _ _ hsr (by omega)).mono ?_; rintro e w2 ⟨y, rfl, hy0, hy1, -, hs2, hg2⟩; have o2 := hown.src hg2 hp; have g2 := grown_trans hgr hg2)
        | (at_builtin; refine append_one _ rfl (.tmp 16) (.tmp 19) rfl w.heap.size Try.underlying26 info64 _ _ rfl (o2.below ((Below.refl _ _).alloc (Nat.le_refl _) _)) _ _ _ rfl (new_cell rfl) hls (by have := g2.size; simp; omega) ?_; intro v' w' hown' hbel'))
      have hb' : Below w.heap.size w2 w' := ((Below.refl _ _).alloc g2.size _).trans hbel'
      have s' := hs2.belowB hb' hp
      have g' := grown_step g2 hb' (Nat.le_refl _)
      go_roundw
      case rel => exact ⟨k, xs ++ [y], by omega, by go_num, by rw [List.length_append, HX.out, List.length_singleton]; omega, hown', s', g'⟩
      case measure => simp [intOf]

end

section
open Go.RowKit

/-- Since w0 nothing old has changed; block p, laid since then, is a source; every slice of L is the call's own, behind p, and reads as its list; no two of them share a block. -/
structure HeldS (E T : Nat) (w0 w : World) (p : Nat) (L : List (Value × List Int)) : Prop where
  below : Below w0.heap.size w0 w
  lo : w0.heap.size ≤ p
  src : Src T w p
  own : ∀ q ∈ L, Own E w (p + 1) q.1 q.2
  apart : L.Pairwise fun q r => ∀ k, q.1.ownBlock = some k → r.1.ownBlock ≠ some k

section
variable {E T : Nat} {w0 w w' : World} {p : Nat} {L : List (Value × List Int)} {v : Value} {xs : List Int}
theorem HeldS.start (h : Below w0.heap.size w0 w) (hl : w0.heap.size ≤ p) (hs : Src T w p) : HeldS E T w0 w p [] := ⟨h, hl, hs, (fun _ h => by cases h), List.Pairwise.nil⟩
theorem HeldS.still (h : HeldS E T w0 w p L) (b : Below w.heap.size w w') : HeldS E T w0 w' p L :=
  ⟨below_two h.below b, h.lo, h.src.below b, fun q hq => (h.own q hq).below b, h.apart⟩
theorem HeldS.next (h : HeldS E T w0 w p L) (hs : Src T w' p) (g : w.grownBy w' (some p)) : HeldS E T w0 w' p L :=
  ⟨h.below.grown g h.below.size (fun k hk => by cases hk; exact h.lo), h.lo, hs, fun q hq => (h.own q hq).src g (by omega), h.apart⟩
theorem HeldS.add (h : HeldS E T w0 w' p L) (hpw : p < w.heap.size) (hL : ∀ q ∈ L, ∀ k, q.1.ownBlock = some k → k < w.heap.size) (o : Own E w' w.heap.size v xs) : HeldS E T w0 w' p ((v, xs) :: L) := by
  refine ⟨h.below, h.lo, h.src, fun q hq => ?_, List.Pairwise.cons (fun q hq k hk e => ?_) h.apart⟩
  · rcases List.mem_cons.1 hq with rfl | hq
    · exact o.more hpw
    · exact h.own q hq
  · have h1 := (o.block k hk).1
    have h2 := hL q hq k e
    omega
theorem HeldS.lt (h : HeldS E T w0 w p L) : ∀ q ∈ L, ∀ k, q.1.ownBlock = some k → k < w.heap.size := fun q hq k hk => ((h.own q hq).block k hk).2
theorem HeldS.draw (h : HeldS E T w0 w p L) (o : Own E w' w.heap.size v xs) (hs : Src T w' p) (g : w.grownBy w' (some p)) : HeldS E T w0 w' p ((v, xs) :: L) :=
  (h.next hs g).add h.src.lt h.lt o
theorem HeldS.make (h : HeldS E T w0 w p L) (o : Own E w' w.heap.size v xs) (b : Below w.heap.size w w') : HeldS E T w0 w' p ((v, xs) :: L) :=
  (h.still b).add h.src.lt h.lt o
theorem HeldS.get (h : HeldS E T w0 w p L) (i : Nat) (hi : L[i]? = some (v, xs)) : Own E w w0.heap.size v xs := (h.own (v, xs) (List.mem_of_getElem? hi)).more (by have := h.lo; omega)
theorem HeldS.rd {ao : Option Addr} {n cap : Nat} (h : HeldS E T w0 w p L) (i : Nat) (hi : L[i]? = some (.slice ao n cap, xs)) (_ : xs.length = n) : Rd w ao n xs := by
  obtain ⟨ao', cap', e, o, r⟩ := (h.get i hi).get
  cases e
  exact r
theorem HeldS.held (h : HeldS E T w0 w p L) : Held E w0 w L := ⟨h.below, fun q hq => (h.own q hq).more (by have := h.lo; omega), h.apart⟩
end

/-- What a draw of a slice and two numbers leaves. -/
def DrawnA (E : Nat) (w : World) (e : Ending) (w' : World) : Prop :=
  ∃ v xs a b, e = .returned (.tuple #[v, .int .i64 a, .int .i64 b]) ∧ Own E w' w.heap.size v xs ∧ xs.length ≤ 9000 ∧ Below w.heap.size w w'
/-- What a draw of a slice leaves. -/
def Drawn1 (E : Nat) (w : World) (e : Ending) (w' : World) : Prop :=
  ∃ v xs, e = .returned v ∧ Own E w' w.heap.size v xs ∧ xs.length ≤ 9000 ∧ Below w.heap.size w w'

end

section
open Go.RowKit

/-- laws.likeInts: whether two slices read as the same list. -/
theorem like_any (ao bo : Option Addr) (n m c d : Nat) (xs ys : List Int) (w : World) (hx : Rd w ao n xs) (hy : Rd w bo m ys) (hn : n ≤ 9223372036854775807) (hm : m ≤ 9223372036854775807) :
    Calls Try.prog 24 #[.slice ao n c, .slice bo m d] w fun e w' => e = .returned (.bool (decide (xs = ys))) ∧ ∃ q, w' = w.drewN q := by
  obtain ⟨hxl, hxa⟩ := hx
  obtain ⟨hyl, hya⟩ := hy
  by_cases hnm : n = m
  · subst hnm
    have XL := Lib.hid hxl; clear hxl
    have XA := Lib.hid hxa; clear hxa
    have YL := Lib.hid hyl; clear hyl
    have YA := Lib.hid hya; clear hya
    have hne : ((n : Int) != (n : Int)) = false := by simp
    go_enter Try.func24, Try.ntmps24
    go_wp2
    clear hne
    go_loopw [5] (fun i wr => ∃ k : Nat, k ≤ n ∧ i = .int .i64 k ∧ Hid (xs.take k = ys.take k) ∧ ∃ q, wr = w.drewN q) (fun i _ => n - (intOf i).toNat)
    case atStart => exact ⟨0, Nat.zero_le _, rfl, rfl, 0, rfl⟩
    case round =>
      obtain ⟨k, hk, rfl, heq, q, rfl⟩ := hrel
      by_cases hlt : k < n
      · obtain ⟨b, off, rfl, hc⟩ := XA.out (by omega)
        obtain ⟨b', off', rfl, hc'⟩ := YA.out (by omega)
        have hck : w.cell? ⟨b, off + k, none⟩ = some (.int .i64 (xs.getD k 0)) := hc k hlt
        have hck' : w.cell? ⟨b', off' + k, none⟩ = some (.int .i64 (ys.getD k 0)) := hc' k hlt
        clear hc hc' XA YA
        obtain ⟨x, hx⟩ : ∃ x, x = xs.getD k 0 := ⟨_, rfl⟩
        obtain ⟨y, hy⟩ : ∃ y, y = ys.getD k 0 := ⟨_, rfl⟩
        rw [← hx] at hck
        rw [← hy] at hck'
        have HX := Lib.hid hx; clear hx
        have HY := Lib.hid hy; clear hy
        by_cases hxy : x = y
        · have hd : (x != y) = false := by simp [hxy]
          have HXY := Lib.hid hxy; clear hxy
          go_wp2
          go_quiet (fail)
          go_wp2
          go_roundw
          case rel => exact ⟨k + 1, by omega, by go_num, take_eq_succ (by rw [XL.out]; exact hlt) (by rw [YL.out]; exact hlt) heq.out (by rw [← HX.out, ← HY.out]; exact HXY.out), _, rfl⟩
          case measure => simp [intOf]; omega
        · have hd : (x != y) = true := by simp [hxy]
          have HXY := Lib.hid hxy; clear hxy
          go_wp2
          go_quiet (fail)
          go_wp2
          go_ret
          exact ⟨ret_bool (ne_of_getD (k := k) (by rw [← HX.out, ← HY.out]; exact HXY.out)).symm, _, World.drewN_drewN _ _ _⟩
      · have hkn : k = n := by omega
        subst hkn
        go_wp2
        go_ret
        exact ⟨ret_bool (decide_eq_true (list_eq_of_take XL.out YL.out heq.out)).symm, _, rfl⟩
  · have hne : ((n : Int) != (m : Int)) = true := by simp; omega
    have hf : decide (xs = ys) = false := ne_of_len (by rw [hxl, hyl]; exact hnm)
    rw [hf]
    clear hxl hyl hxa hya hf hnm
    go_enter Try.func24, Try.ntmps24
    go_wp2
    go_ret
    exact ⟨rfl, 0, rfl⟩
/-- laws.likeInts of two equal lists. -/
theorem like_yes (ao bo : Option Addr) (n m c d : Nat) (xs : List Int) (w : World) (hx : Rd w ao n xs) (hy : Rd w bo m xs) (hn : n ≤ 9223372036854775807) :
    Calls Try.prog 24 #[.slice ao n c, .slice bo m d] w fun e w' => e = .returned (.bool true) ∧ Below w.heap.size w w' := by
  have hm : m ≤ 9223372036854775807 := by have := hx.len; have := hy.len; omega
  refine (like_any ao bo n m c d xs xs w hx hy hn hm).mono ?_
  rintro e w' ⟨he, q, rfl⟩
  exact ⟨by rw [he]; simp, below_drewN' (Below.refl _ _) q⟩


/-- A number is read from where it has been appended. -/
theorem number_round {xs out : List Int} {v width : Int} (h : appendNumber xs v width = (out, 0)) : out.length ≤ 8192 ∧ xs.length ≤ out.length ∧ out.take xs.length = xs ∧ numberAt out xs.length width = (v, 0) := by
  have hlen := appendNumber_len xs v width
  rw [h] at hlen
  unfold appendNumber at h
  split at h
  · cases h
  · split at h
    · cases h
    · split at h
      · cases h
      · rename_i h1 h2 h3
        have h1 := isBits_iff.1 (by simpa using h1)
        simp only [not_or, Decidable.not_not] at h2
        obtain ⟨⟨hw0, hw1⟩, hv0, hv1⟩ := h2
        simp only [Prod.mk.injEq, and_true] at h
        subst h
        obtain ⟨wd, rfl⟩ := Int.eq_ofNat_of_zero_le hw0
        rw [Int.toNat_natCast] at *
        have hol : (xs ++ bitsOf v wd).length = xs.length + wd := by rw [List.length_append, bitsOf_len]
        have hbits : isBits (xs ++ bitsOf v wd) = true := isBits_iff.2 ⟨by omega, fun x hx => by
          rcases List.mem_append.1 hx with hx | hx
          · exact h1.2 x hx
          · exact bitsOf_bits v wd x hx⟩
        refine ⟨hlen, by omega, by simp, ?_⟩
        rw [na_0 hbits ⟨hw0, hw1⟩ ⟨by omega, by rw [hol]; omega⟩]
        simp only [Int.toNat_natCast, List.drop_left]
        rw [List.take_of_length_le (by rw [bitsOf_len]; exact Nat.le_refl _), numOf_bitsOf v wd hv0 hv1]
/-- A number that is read is appended as the same bits. -/
theorem number_back {xs : List Int} {at_ width x : Int} (h : numberAt xs at_ width = (x, 0)) :
    ∃ a wd : Nat, at_ = a ∧ width = wd ∧ a + wd ≤ xs.length ∧ xs.length ≤ 8192 ∧ wd ≤ 40 ∧ appendNumber (xs.take a) x width = (xs.take (a + wd), 0) := by
  unfold numberAt at h
  split at h
  · cases h
  · split at h
    · cases h
    · rename_i h1 h2
      have h1 := isBits_iff.1 (by simpa using h1)
      simp only [not_or, Decidable.not_not] at h2
      obtain ⟨⟨hw0, hw1⟩, hv0, hv1⟩ := h2
      obtain ⟨wd, rfl⟩ := Int.eq_ofNat_of_zero_le hw0
      obtain ⟨a, rfl⟩ := Int.eq_ofNat_of_zero_le hv0
      simp only [Int.toNat_natCast, Prod.mk.injEq, and_true] at h
      subst h
      have hl : ((xs.drop a).take wd).length = wd := by rw [List.length_take, List.length_drop]; omega
      have hb : ∀ x ∈ (xs.drop a).take wd, 0 ≤ x ∧ x ≤ 1 := fun x hx => h1.2 x (List.mem_of_mem_drop (List.mem_of_mem_take hx))
      have hbd := numOf_bound _ hb
      rw [hl] at hbd
      have htl : (xs.take a).length = a := by rw [List.length_take]; omega
      refine ⟨a, wd, rfl, rfl, by omega, h1.1, by omega, ?_⟩
      rw [an_0 (isBits_iff.2 ⟨by omega, fun x hx => h1.2 x (List.mem_of_mem_take hx)⟩) ⟨hw0, hw1⟩ (by simpa using hbd) (by rw [htl]; omega), Int.toNat_natCast, bitsOf_numOf wd _ hl hb, List.take_add]

theorem Rd.front {w : World} {ao : Option Addr} {n : Nat} {xs : List Int} (h : Rd w ao n xs) {k : Nat} (hk : k ≤ n) : Rd w ao k (xs.take k) := by
  have hl := h.len
  refine ⟨by rw [List.length_take]; omega, fun h0 => ?_⟩
  obtain ⟨b, off, rfl, hc⟩ := h.here (by omega)
  exact ⟨b, off, rfl, fun i hi => by rw [hc i (by omega)]; simp [List.getD, hi]⟩
end
end Go.Proofs.Ytbdfnkhmnglpbaa
