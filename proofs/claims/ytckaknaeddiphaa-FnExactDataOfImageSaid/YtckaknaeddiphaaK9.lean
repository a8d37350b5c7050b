/-
  Chapter 9: a new block of the program.
-/
import Derived.Test.YtckaknaeddiphaaK8
import Derived.Laws.Rows
import Derived.Laws.Tables
namespace Go.Proofs.Ytckaknaeddiphaa
open Go.RowKit

theorem rd_two9 {T : Nat} (x y : Int) (w : World) : Rd (w.alloc (.cells #[.int .i64 x, .int .i64 y] T)) (some ⟨w.heap.size, 0, none⟩) 2 [x, y] := by
  refine ⟨rfl, fun _ => ⟨w.heap.size, 0, rfl, fun i hi => ?_⟩⟩
  rw [World.cell?_alloc_at _ _ _ _ (by simp)]
  match i, hi with
  | 0, _ => rfl
  | 1, _ => rfl
def flag9 (c : Bool) : Int := if c = true then 1 else 0
theorem flag9_any (c : Bool) (w : World) : Calls Try.prog 60 #[.bool c] w fun e w' => e = .returned (.int .i64 (flag9 c)) ∧ w = w' := by
  cases c with
  | true =>
    go_enter Try.func60, Try.ntmps60
    go_wp2
    go_ret
    exact ⟨rfl, rfl⟩
  | false =>
    go_enter Try.func60, Try.ntmps60
    go_wp2
    go_ret
    exact ⟨rfl, rfl⟩
theorem infoBlk : (Try.prog.info? 51).map (·.size) = some 34 := by kernel_rfl
theorem infoBlk_of {xs : List Int} (h : xs.length ≤ 33) : (Try.prog.info? 51).map (·.size) = some (cellsI (blk xs)).size := by rw [cellsI_size, blk_len h]; exact infoBlk
theorem BlkAt.new0 (w : World) : BlkAt (w.alloc (.cells (cellsI (blk [])) 51)) w.heap.size [] := heap_alloc_new w _
theorem add_n (b : Nat) (xs : List Int) (ao : Option Addr) (n cap : Nat) (ys : List Int) (w : World) (h : BlkAt w b xs) (hr : Rd w ao n ys) (hfit : xs.length + n ≤ 33) (hx : xs.length ≤ 32) :
    Calls Try.prog 59 #[.pointer (some ⟨b, 0, none⟩), .slice ao n cap] w fun e w' => e = .returned (.tuple #[]) ∧ BlkAt w' b (xs ++ ys) ∧ Below b w w' := by
  have hl := hr.len
  subst hl
  exact add_any b xs ao cap ys w h hr hfit hx
/-- A block as a value. -/
def blkVal (xs : List Int) : Value := .agg (cellsI (blk xs))
/-- The head of a block: its number, its mark and size, its part. -/
def headB (k : Int) (part : List Int) (last : Bool) : List Int := [k, (part.length : Int) + 128 * flag9 last] ++ part
set_option linter.unusedSimpArgs false in
set_option maxHeartbeats 2000000 in
set_option maxRecDepth 100000 in
theorem newBlock_any (k : Nat) (last : Bool) (ao : Option Addr) (cap : Nat) (part : List Int) (w : World) (hr : Rd w ao part.length part) (hk : k ≤ 31) (hl : part.length ≤ 28) (hb : isBytes (headB k part last) = true) :
    Calls Try.prog 53 #[.int .i64 k, .slice ao part.length cap, .bool last] w fun e w' => e = .returned (blkVal (headB k part last ++ three (checkOf k (headB k part last)))) ∧ Below w.heap.size w w' := by
  obtain ⟨hd, hhd⟩ : ∃ hd, headB k part last = hd := ⟨_, rfl⟩
  have hhl : hd.length = 2 + part.length := by rw [← hhd]; unfold headB; simp; omega
  have hck := fun p c W h => blockCheck_any k p c hd W (by omega) h (by rw [← hhd]; exact hb)
  rw [hhd]
  have hf : 0 ≤ flag9 last ∧ flag9 last ≤ 1 := by unfold flag9; split <;> omega
  have hhe : ([] ++ [(k : Int), (part.length : Int) + 128 * flag9 last]) ++ part = hd := by rw [← hhd]; rfl
  have hfc := fun W => flag9_any last W
  generalize checkOf k hd = z at hck ⊢
  obtain ⟨th, hth⟩ : ∃ th, three z = th := ⟨_, rfl⟩
  have htl : th.length = 3 := by rw [← hth]; rfl
  rw [hth] at hck ⊢
  generalize flag9 last = fb at hf hhe hfc
  have HR := Lib.hid hr; have HCK := Lib.hid hck; have HHL := Lib.hid hhl; have HTL := Lib.hid htl; have HFC := Lib.hid hfc
  clear hr hck hhl htl hfc hhd hth hb
  obtain ⟨sz, hsz⟩ : ∃ sz, (part.length : Int) + 128 * fb = sz := ⟨_, rfl⟩
  rw [hsz] at hhe
  have HHE := Lib.hid hhe; clear hhe
  obtain ⟨pn, hpn⟩ : ∃ pn, part.length = pn := ⟨_, rfl⟩
  rw [hpn] at hsz HR HHL hl ⊢
  have HPN := Lib.hid hpn; clear hpn
  obtain ⟨Z, hZ⟩ : ∃ Z, Z = cellsI (blk []) := ⟨_, rfl⟩
  have hzz : (#[.int .i64 0, .int .i64 0, .int .i64 0, .int .i64 0, .int .i64 0, .int .i64 0, .int .i64 0, .int .i64 0, .int .i64 0, .int .i64 0, .int .i64 0, .int .i64 0, .int .i64 0, .int .i64 0, .int .i64 0, .int .i64 0, .int .i64 0, .int .i64 0, .int .i64 0, .int .i64 0, .int .i64 0, .int .i64 0, .int .i64 0, .int .i64 0, .int .i64 0, .int .i64 0, .int .i64 0, .int .i64 0, .int .i64 0, .int .i64 0, .int .i64 0, .int .i64 0, .int .i64 0, .int .i64 0] : Array Value) = Z := by rw [hZ]; rfl
  have HZ := Lib.hid hZ; clear hZ
  have hw1 : IntKind.i64.wrap (128 * fb) = 128 * fb := by rw [IntKind.wrap_i64]; omega
  go_enter Try.func53, Try.ntmps53
  go_wp2_with fail
  clear hzz
  refine (HFC.out _).mono ?_
  rintro e w1 ⟨rfl, rfl⟩
  have A0 : BlkAt ((w.alloc (.cells Z 51)).alloc (.cells Z 51)) w.heap.size [] := by
    rw [HZ.out]; exact (BlkAt.new0 w).below ((Below.refl _ _).alloc (Nat.le_refl _) _) (by simp)
  have A1 : BlkAt ((w.alloc (.cells Z 51)).alloc (.cells Z 51)) (w.heap.size + 1) [] := by
    have h := BlkAt.new0 (w.alloc (.cells Z 51))
    rw [World.size_alloc, ← HZ.out] at h; exact h
  have B0 : Below w.heap.size w ((w.alloc (.cells Z 51)).alloc (.cells Z 51)) := ((Below.refl _ _).alloc (Nat.le_refl _) _).alloc (by simp) _
  have S0 := Lib.hid (show w.heap.size + 2 ≤ ((w.alloc (.cells Z 51)).alloc (.cells Z 51)).heap.size from by simp)
  generalize (w.alloc (.cells Z 51)).alloc (.cells Z 51) = w2 at A0 A1 B0 S0 ⊢
  have A0 := Lib.hid A0; have A1 := Lib.hid A1; have B0 := Lib.hid B0
  go_wp2_with fail
  have D3 := Below.alloc (Below.refl w2.heap.size w2) (Nat.le_refl _) (.cells #[.int .i64 k, .int .i64 sz] 2)
  refine (add_n (w.heap.size + 1) [] _ 2 2 [(k : Int), sz] _ (A1.out.below D3 A1.out.lt) (rd_two9 _ _ _) (by simp) (by simp)).mono ?_
  rintro e w3 ⟨rfl, a3, b3⟩
  have hs3 : w.heap.size + 2 ≤ w3.heap.size := Nat.le_trans S0.out (Nat.le_trans D3.size b3.size)
  have B3 := Lib.hid ((B0.out.trans (D3.mono B0.out.size)).trans (b3.mono (Nat.le_succ _)))
  have A0 := Lib.hid ((A0.out.below D3 A0.out.lt).below b3 (Nat.lt_succ_self _))
  have A3 := Lib.hid a3; have S3 := Lib.hid hs3
  clear D3 a3 b3 hs3 A1 B0 S0
  go_wp2_with fail
  refine (add_n (w.heap.size + 1) _ _ pn cap part _ A3.out (HR.out.below B3.out) (by simp; omega) (by simp)).mono ?_
  rintro e w4 ⟨rfl, a4, b4⟩
  rw [HHE.out] at a4
  have B4 := Lib.hid (B3.out.trans (b4.mono (Nat.le_succ _)))
  have S4 := Lib.hid (Nat.le_trans S3.out b4.size)
  have A0 := Lib.hid (A0.out.below b4 (Nat.lt_succ_self _))
  have A4 := Lib.hid a4
  clear a4 b4 A3 B3 S3
  go_wp2_with fail
  refine (list_any (w.heap.size + 1) hd _ A4.out (by have := HHL.out; omega)).mono ?_
  rintro e w5 ⟨rfl, rfl⟩
  have A5 := Lib.hid (show BlkAt w4.drew (w.heap.size + 1) hd from A4.out)
  have A0 := Lib.hid (show BlkAt w4.drew w.heap.size [] from A0.out)
  have B5 := Lib.hid B4.out.drew
  have S5 := Lib.hid (show w.heap.size + 2 ≤ w4.drew.heap.size from S4.out)
  clear A4 B4 S4
  generalize w4.drew = w5 at A5 A0 B5 S5 ⊢
  go_wp2_with fail
  refine (HCK.out _ _ _ (A5.out.rd (by have := HHL.out; omega))).mono ?_
  rintro e w6 m6
  obtain ⟨p6, c6, rfl, -, r6, b6⟩ := m6.get
  have R6 := Lib.hid r6
  have A6 := Lib.hid (A5.out.below b6 A5.out.lt)
  have A0 := Lib.hid (A0.out.below b6 A0.out.lt)
  have B6 := Lib.hid (below_two B5.out b6)
  clear m6 r6 b6 A5 B5 S5
  go_wp2_with fail
  refine (add_any (w.heap.size + 1) hd _ _ th _ A6.out R6.out (by have := HHL.out; have := HTL.out; omega) (by have := HHL.out; omega)).mono ?_
  rintro e w7 ⟨rfl, a7, b7⟩
  have B7 := Lib.hid (B6.out.trans (b7.mono (Nat.le_succ _)))
  have A0 := Lib.hid (A0.out.below b7 (Nat.lt_succ_self _))
  have A7 := Lib.hid a7
  have HX : (hd ++ th).length ≤ 33 := by have := HHL.out; have := HTL.out; rw [List.length_append]; omega
  have I7 := Lib.hid (infoBlk_of HX)
  have I0 := Lib.hid (show (cellsI (blk [])).size = (cellsI (blk (hd ++ th))).size from by rw [cellsI_size, cellsI_size, blk_len HX]; rfl)
  clear a7 b7 A6 B6 R6 HX
  obtain ⟨C, hC⟩ : ∃ C, C = cellsI (blk (hd ++ th)) := ⟨_, rfl⟩
  have N1 := Lib.hid (show C.all (·.oneCell') = true from by rw [hC]; exact cellsI_one _)
  have H1 := Lib.hid (show w7.heap[w.heap.size + 1]? = some (.cells C 51 (0, 0)) from by rw [hC]; exact A7.out)
  obtain ⟨Z0, hZ0⟩ : ∃ Z0, Z0 = cellsI (blk []) := ⟨_, rfl⟩
  have H0 := Lib.hid (show w7.heap[w.heap.size]? = some (.cells Z0 51 (0, 0)) from by rw [hZ0]; exact A0.out)
  rw [← hC] at I7 I0
  rw [← hZ0] at I0
  have HC := Lib.hid hC
  clear hC hZ0 A7 A0
  go_wp2_with (first
    | (with_reducible refine wpList_load_row rfl 51 (.tmp 7) rfl (w.heap.size + 1) rfl _ C (0, 0) _ H1.out Try.underlying51 rfl I7.out ?_)
    | (with_reducible refine wpList_store_row rfl 51 (.tmp 6) (.tmp 23) rfl w.heap.size C rfl rfl _ Z0 H0.out I7.out I0.out N1.out ?_))
  have h9 := setRow_heap w7 w.heap.size Z0 C _ _ H0.out
  refine bodyPost_ret (results_cell_row rfl _ _ w.heap.size _ C (0, 0) _ rfl h9 Try.underlying51 rfl I7.out) rfl ?_
  exact ⟨by rw [HC.out]; rfl, below_setRow B7.out (Nat.le_refl _) _⟩
end Go.Proofs.Ytckaknaeddiphaa
