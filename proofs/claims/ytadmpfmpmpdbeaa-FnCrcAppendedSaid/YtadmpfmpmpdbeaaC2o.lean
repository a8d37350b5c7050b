/-
  spec.DrawCrcOfBits, DrawCrcOfBytes and what stands on them.
-/
import Derived.Test.YtadmpfmpmpdbeaaC2n
namespace Go.Proofs.Ytadmpfmpmpdbeaa
open Go.RowKit

/-- The code reads on while the call makes memory of its own. -/
theorem rdB_grow {w w' : World} {n : Nat} {ao : Option Addr} {cs : List Int} (h : RdB w w.heap.size ao n cs) (b : Below w.heap.size w w') : RdB w' w'.heap.size ao n cs := by
  have h1 := h.keep (w' := w') fun b' o hb => b.cell (p := ⟨b', o, none⟩) hb
  exact ⟨h1.len, fun hn => by
    obtain ⟨b', off, e, hb, hc⟩ := h1.here hn
    exact ⟨b', off, e, Nat.lt_of_lt_of_le hb b.size, hc⟩, h1.bound⟩
/-- What a draw of a code, a seed and a list leaves. -/
def DrawnCSL (E : Nat) (w : World) (e : Ending) (w' : World) : Prop :=
  ∃ (wd pl s : Int) (v : Value) (xs : List Int), e = .returned (.tuple #[.agg #[.int .i64 wd, .int .i64 pl], .int .i64 s, v]) ∧ Own E w' w.heap.size v xs ∧ xs.length ≤ 9000 ∧ Below w.heap.size w w'
/-- Stores into an older block leave what is owned. -/
theorem own_far {E R base : Nat} {w : World} {v a b : Value} {xs : List Int} (h : Own E w base v xs) (hlt : R < base) : Own E ((w.setCell ⟨R, 0, none⟩ a).setCell ⟨R, 1, none⟩ b) base v xs := by
  have g : w.grownBy ((w.setCell ⟨R, 0, none⟩ a).setCell ⟨R, 1, none⟩ b) (some R) :=
    ⟨rfl, rfl, rfl, by simp [World.setCell], fun k _ hk => (heap_setCell_other _ ⟨R, 1, none⟩ k _ (fun e => hk (by simp [e]))).trans (heap_setCell_other _ ⟨R, 0, none⟩ k _ (fun e => hk (by simp [e])))⟩
  refine h.only g ?_
  cases hk : v.ownBlock with
  | none => exact .inl rfl
  | some k => exact .inr (fun e => by cases e; have := (h.block _ hk).1; omega)
theorem struct_block {T : Nat} {w w' : World} {b B : Nat} {x y : Int} (h : StructAt T w b x y) (hb : Below B w w') (hlt : b < B) : StructAt T w' b x y := h.below hb hlt

set_option maxHeartbeats 800000 in
theorem drawCrcOfBits_any (ao : Option Addr) (n cap : Nat) (cs : List Int) (w : World) (hr : RdB w w.heap.size ao n cs) (hn : n ≤ 1048576) :
    Calls Try.prog 68 #[.slice ao n cap] w (DrawnCSL 2 w) := by
  have hb0 : Below w.heap.size w (w.alloc (.cells #[.int .i64 0, .int .i64 0] 25)) := (Below.refl _ _).alloc (Nat.le_refl _) _
  have hR0 : StructAt 25 (w.alloc (.cells #[.int .i64 0, .int .i64 0] 25)) w.heap.size 0 0 := StructAt.new w
  have hr0 := rdB_grow hr hb0
  have hsz : (w.alloc (.cells #[.int .i64 0, .int .i64 0] 25)).heap.size = w.heap.size + 1 := by simp
  have HB := Lib.hid hb0; clear hb0
  have HR := Lib.hid hr0; clear hr0 hr
  have HR0 := Lib.hid hR0; clear hR0
  have HSZ := Lib.hid hsz; clear hsz
  go_enter Try.func68, Try.ntmps68
  go_wp2_with fail
  generalize w.alloc (.cells #[.int .i64 0, .int .i64 0] 25) = w0 at HB HR HR0 HSZ ⊢
  refine (from_any _ _ _ cs _ HR.out hn).mono ?_
  rintro e w1 ⟨p, rfl, hlo, hs1, hb1⟩
  have H : HeldS 2 79 w0 w1 p [] := HeldS.start hb1 hlo hs1
  clear hlo hs1 hb1
  go_wp2_with fail
  refine (draw_any _ _ H.src).mono ?_
  rintro e w2 ⟨wd, pl, rfl, hs2, g2⟩
  replace H := H.next hs2 g2
  clear hs2 g2
  have hba := fun ob => (Below.refl w2.heap.size w2).alloc (Nat.le_refl _) ob
  have HBA := Lib.hid hba; clear hba
  have hC : StructAt 25 (w2.alloc (.cells #[.int .i64 wd, .int .i64 pl] 25)) w2.heap.size wd pl := StructAt.new w2
  have HC := Lib.hid hC; clear hC
  have hpl := H.src.lt
  have hsz2 := H.below.size
  go_wp2_with fail
  refine (drawSeed_any p wd pl _ (H.still (HBA.out _)).src).mono ?_
  rintro e w3 ⟨s, rfl, hs3, g3⟩
  have C3 := Lib.hid (HC.out.grown g3 (by simp; omega))
  replace H := (H.still (HBA.out _)).next hs3 g3
  obtain ⟨C, hCC⟩ : ∃ C, C = w2.heap.size := ⟨_, rfl⟩
  have hCR : C ≠ w.heap.size := by have := HSZ.out; omega
  have hCp : some C ≠ some p := by simp; omega
  rw [← hCC] at C3 ⊢
  clear HC hs3 g3 HBA hpl hsz2 hCC
  have HD := Lib.hid (H.still (Below.refl w3.heap.size w3).drew)
  have D3 := Lib.hid (show StructAt 25 w3.drew C wd pl from C3.out)
  clear H C3
  go_wp2
  go_region_held3 (fun w' => w'.cell? ⟨C, 0, none⟩ = some (.int .i64 wd) ∧ w'.cell? ⟨C, 1, none⟩ = some (.int .i64 pl))
    (first | exact ⟨D3.out.c0, D3.out.c1⟩ | exact ⟨D5.out.c0, D5.out.c1⟩ | exact ⟨(D5x _ _).c0, (D5x _ _).c1⟩)
    (first
      | (go_at_call 78; (refine (drawBits_any _ _ _ HD.out.src (by omega) (by omega)).mono ?_); rintro e w5 ⟨v, xs, rfl, o5, hxl, hs5, g5⟩; have D5 := Lib.hid (D3.out.grown g5 hCp); have H5 := Lib.hid (HD.out.draw o5 hs5 g5); clear o5 hs5 g5; have R5 := Lib.hid (HR0.out.below H5.out.below HR0.out.lt); have hr0 := R5.out.c0; have hr1 := R5.out.c1; have hq0 := R5.out.f0 0; have hq1 := R5.out.f0 1; have D5x := (fun (a b : Int) => (show StructAt 25 ((w5.setCell ⟨w.heap.size, 0, none⟩ (.int .i64 a)).setCell ⟨w.heap.size, 1, none⟩ (.int .i64 b)) C wd pl from (heap_setCell_other _ _ _ _ (by simp; omega)).trans ((heap_setCell_other _ _ _ _ (by simp; omega)).trans D5.out)))))
  go_wp2
  have h6 : Below w.heap.size w5 ((w5.setCell ⟨w.heap.size, 0, none⟩ (.int .i64 wd)).setCell ⟨w.heap.size, 1, none⟩ (.int .i64 pl)) := ((Below.refl _ _).setCell (by simp) _).setCell (by simp) _
  have hR6 := (R5.out.set0 wd).set1 pl
  have hd0 := hR6.c0
  have hd1 := hR6.c1
  clear D5x hr0 hr1 hq0 hq1 hR6
  have hlt : w.heap.size < w0.heap.size := by have := HSZ.out; omega
  have hO := own_far (a := .int .i64 wd) (b := .int .i64 pl) (H5.out.get 0 rfl) hlt
  exact bodyPost_ret (v := .tuple #[.agg #[.int .i64 wd, .int .i64 pl], .int .i64 s, v]) (by simp [results, Try.results68, go_sem, hd0, hd1]) rfl ⟨_, _, _, _, xs, rfl, hO.more (Nat.le_of_lt hlt), by omega, below_two HB.out (H5.out.below) |>.trans h6⟩
set_option maxHeartbeats 800000 in
theorem drawCrcOfBytes_any (ao : Option Addr) (n cap : Nat) (cs : List Int) (w : World) (hr : RdB w w.heap.size ao n cs) (hn : n ≤ 1048576) :
    Calls Try.prog 17 #[.slice ao n cap] w (DrawnCSL 2 w) := by
  have hb0 : Below w.heap.size w (w.alloc (.cells #[.int .i64 0, .int .i64 0] 25)) := (Below.refl _ _).alloc (Nat.le_refl _) _
  have hR0 : StructAt 25 (w.alloc (.cells #[.int .i64 0, .int .i64 0] 25)) w.heap.size 0 0 := StructAt.new w
  have hr0 := rdB_grow hr hb0
  have hsz : (w.alloc (.cells #[.int .i64 0, .int .i64 0] 25)).heap.size = w.heap.size + 1 := by simp
  have HB := Lib.hid hb0; clear hb0
  have HR := Lib.hid hr0; clear hr0 hr
  have HR0 := Lib.hid hR0; clear hR0
  have HSZ := Lib.hid hsz; clear hsz
  go_enter Try.func17, Try.ntmps17
  go_wp2_with fail
  generalize w.alloc (.cells #[.int .i64 0, .int .i64 0] 25) = w0 at HB HR HR0 HSZ ⊢
  refine (from_any _ _ _ cs _ HR.out hn).mono ?_
  rintro e w1 ⟨p, rfl, hlo, hs1, hb1⟩
  have H : HeldS 2 79 w0 w1 p [] := HeldS.start hb1 hlo hs1
  clear hlo hs1 hb1
  go_wp2_with fail
  refine (draw_any _ _ H.src).mono ?_
  rintro e w2 ⟨wd, pl, rfl, hs2, g2⟩
  replace H := H.next hs2 g2
  clear hs2 g2
  have hba := fun ob => (Below.refl w2.heap.size w2).alloc (Nat.le_refl _) ob
  have HBA := Lib.hid hba; clear hba
  have hC : StructAt 25 (w2.alloc (.cells #[.int .i64 wd, .int .i64 pl] 25)) w2.heap.size wd pl := StructAt.new w2
  have HC := Lib.hid hC; clear hC
  have hpl := H.src.lt
  have hsz2 := H.below.size
  go_wp2_with fail
  refine (drawSeed_any p wd pl _ (H.still (HBA.out _)).src).mono ?_
  rintro e w3 ⟨s, rfl, hs3, g3⟩
  have C3 := Lib.hid (HC.out.grown g3 (by simp; omega))
  replace H := (H.still (HBA.out _)).next hs3 g3
  obtain ⟨C, hCC⟩ : ∃ C, C = w2.heap.size := ⟨_, rfl⟩
  have hCR : C ≠ w.heap.size := by have := HSZ.out; omega
  have hCp : some C ≠ some p := by simp; omega
  rw [← hCC] at C3 ⊢
  clear HC hs3 g3 HBA hpl hsz2 hCC
  have HD := Lib.hid (H.still (Below.refl w3.heap.size w3).drew)
  have D3 := Lib.hid (show StructAt 25 w3.drew C wd pl from C3.out)
  clear H C3
  go_wp2
  go_region_held3 (fun w' => w'.cell? ⟨C, 0, none⟩ = some (.int .i64 wd) ∧ w'.cell? ⟨C, 1, none⟩ = some (.int .i64 pl))
    (first | exact ⟨D3.out.c0, D3.out.c1⟩ | exact ⟨D5.out.c0, D5.out.c1⟩ | exact ⟨(D5x _ _).c0, (D5x _ _).c1⟩)
    (first
      | (go_at_call 53; (refine (drawBytes_any _ _ _ HD.out.src (by omega) (by omega)).mono ?_); rintro e w5 ⟨v, xs, rfl, o5, hxl, hs5, g5⟩; have D5 := Lib.hid (D3.out.grown g5 hCp); have H5 := Lib.hid (HD.out.draw o5 hs5 g5); clear o5 hs5 g5; have R5 := Lib.hid (HR0.out.below H5.out.below HR0.out.lt); have hr0 := R5.out.c0; have hr1 := R5.out.c1; have hq0 := R5.out.f0 0; have hq1 := R5.out.f0 1; have D5x := (fun (a b : Int) => (show StructAt 25 ((w5.setCell ⟨w.heap.size, 0, none⟩ (.int .i64 a)).setCell ⟨w.heap.size, 1, none⟩ (.int .i64 b)) C wd pl from (heap_setCell_other _ _ _ _ (by simp; omega)).trans ((heap_setCell_other _ _ _ _ (by simp; omega)).trans D5.out)))))
  go_wp2
  have h6 : Below w.heap.size w5 ((w5.setCell ⟨w.heap.size, 0, none⟩ (.int .i64 wd)).setCell ⟨w.heap.size, 1, none⟩ (.int .i64 pl)) := ((Below.refl _ _).setCell (by simp) _).setCell (by simp) _
  have hR6 := (R5.out.set0 wd).set1 pl
  have hd0 := hR6.c0
  have hd1 := hR6.c1
  clear D5x hr0 hr1 hq0 hq1 hR6
  have hlt : w.heap.size < w0.heap.size := by have := HSZ.out; omega
  have hO := own_far (a := .int .i64 wd) (b := .int .i64 pl) (H5.out.get 0 rfl) hlt
  exact bodyPost_ret (v := .tuple #[.agg #[.int .i64 wd, .int .i64 pl], .int .i64 s, v]) (by simp [results, Try.results17, go_sem, hd0, hd1]) rfl ⟨_, _, _, _, xs, rfl, hO.more (Nat.le_of_lt hlt), by omega, below_two HB.out (H5.out.below) |>.trans h6⟩
end Go.Proofs.Ytadmpfmpmpdbeaa
