/-
  spec.DrawSeedAfter, DrawAppendCrc, DrawSyndromeOf, DrawHasCrc.
-/
import Derived.Test.YtadmpfmpmpdbeaaC2o
namespace Go.Proofs.Ytadmpfmpmpdbeaa
open Go.RowKit

theorem drawSeedAfter_any (ao : Option Addr) (n cap : Nat) (cs : List Int) (w : World) (hr : RdB w w.heap.size ao n cs) (hn : n ≤ 1048576) :
    Calls Try.prog 27 #[.slice ao n cap] w (DrawnCSL 2 w) := by
  have hb0 : Below w.heap.size w (w.alloc (.cells #[.int .i64 0, .int .i64 0] 25)) := (Below.refl _ _).alloc (Nat.le_refl _) _
  have hR0 : StructAt 25 (w.alloc (.cells #[.int .i64 0, .int .i64 0] 25)) w.heap.size 0 0 := StructAt.new w
  have hr0 := rdB_grow hr hb0
  have hsz : (w.alloc (.cells #[.int .i64 0, .int .i64 0] 25)).heap.size = w.heap.size + 1 := by simp
  have HB := Lib.hid hb0; clear hb0
  have HR := Lib.hid hr0; clear hr0 hr
  have HR0 := Lib.hid hR0; clear hR0
  have HSZ := Lib.hid hsz; clear hsz
  go_enter Try.func27, Try.ntmps27
  go_wp2_with fail
  generalize w.alloc (.cells #[.int .i64 0, .int .i64 0] 25) = w0 at HB HR HR0 HSZ ⊢
  refine (drawCrcOfBits_any _ _ _ cs _ HR.out hn).mono ?_
  rintro e w5 ⟨wd, pl, s, v, xs, rfl, o5, hxl, b5⟩
  have R5 := Lib.hid (HR0.out.below b5 HR0.out.lt)
  have hr0 := R5.out.c0
  have hr1 := R5.out.c1
  have hq0 := R5.out.f0 0
  have hq1 := R5.out.f0 1
  have B5 := Lib.hid b5
  have O5 := Lib.hid o5
  clear b5 o5
  go_wp2
  have h6 : Below w.heap.size w5 ((w5.setCell ⟨w.heap.size, 0, none⟩ (.int .i64 wd)).setCell ⟨w.heap.size, 1, none⟩ (.int .i64 pl)) := ((Below.refl _ _).setCell (by simp) _).setCell (by simp) _
  have hR6 := (R5.out.set0 wd).set1 pl
  have hd0 := hR6.c0
  have hd1 := hR6.c1
  clear hr0 hr1 hq0 hq1 hR6
  have hlt : w.heap.size < w0.heap.size := by have := HSZ.out; omega
  have hO := own_far (a := .int .i64 wd) (b := .int .i64 pl) O5.out hlt
  exact bodyPost_ret (v := .tuple #[.agg #[.int .i64 wd, .int .i64 pl], .int .i64 s, v]) (by simp [results, Try.results27, go_sem, hd0, hd1]) rfl ⟨_, _, _, _, xs, rfl, hO.more (Nat.le_of_lt hlt), hxl, (below_two HB.out B5.out).trans h6⟩

theorem drawAppendCrc_any (ao : Option Addr) (n cap : Nat) (cs : List Int) (w : World) (hr : RdB w w.heap.size ao n cs) (hn : n ≤ 1048576) :
    Calls Try.prog 36 #[.slice ao n cap] w (DrawnCSL 2 w) := by
  have hb0 : Below w.heap.size w (w.alloc (.cells #[.int .i64 0, .int .i64 0] 25)) := (Below.refl _ _).alloc (Nat.le_refl _) _
  have hR0 : StructAt 25 (w.alloc (.cells #[.int .i64 0, .int .i64 0] 25)) w.heap.size 0 0 := StructAt.new w
  have hr0 := rdB_grow hr hb0
  have hsz : (w.alloc (.cells #[.int .i64 0, .int .i64 0] 25)).heap.size = w.heap.size + 1 := by simp
  have HB := Lib.hid hb0; clear hb0
  have HR := Lib.hid hr0; clear hr0 hr
  have HR0 := Lib.hid hR0; clear hR0
  have HSZ := Lib.hid hsz; clear hsz
  go_enter Try.func36, Try.ntmps36
  go_wp2_with fail
  generalize w.alloc (.cells #[.int .i64 0, .int .i64 0] 25) = w0 at HB HR HR0 HSZ ⊢
  refine (drawCrcOfBits_any _ _ _ cs _ HR.out hn).mono ?_
  rintro e w5 ⟨wd, pl, s, v, xs, rfl, o5, hxl, b5⟩
  have R5 := Lib.hid (HR0.out.below b5 HR0.out.lt)
  have hr0 := R5.out.c0
  have hr1 := R5.out.c1
  have hq0 := R5.out.f0 0
  have hq1 := R5.out.f0 1
  have B5 := Lib.hid b5
  have O5 := Lib.hid o5
  clear b5 o5
  go_wp2
  have h6 : Below w.heap.size w5 ((w5.setCell ⟨w.heap.size, 0, none⟩ (.int .i64 wd)).setCell ⟨w.heap.size, 1, none⟩ (.int .i64 pl)) := ((Below.refl _ _).setCell (by simp) _).setCell (by simp) _
  have hR6 := (R5.out.set0 wd).set1 pl
  have hd0 := hR6.c0
  have hd1 := hR6.c1
  clear hr0 hr1 hq0 hq1 hR6
  have hlt : w.heap.size < w0.heap.size := by have := HSZ.out; omega
  have hO := own_far (a := .int .i64 wd) (b := .int .i64 pl) O5.out hlt
  exact bodyPost_ret (v := .tuple #[.agg #[.int .i64 wd, .int .i64 pl], .int .i64 s, v]) (by simp [results, Try.results36, go_sem, hd0, hd1]) rfl ⟨_, _, _, _, xs, rfl, hO.more (Nat.le_of_lt hlt), hxl, (below_two HB.out B5.out).trans h6⟩

/-- What a draw of a code and a list leaves. -/
def DrawnCL (E : Nat) (w : World) (e : Ending) (w' : World) : Prop :=
  ∃ (wd pl : Int) (v : Value) (xs : List Int), e = .returned (.tuple #[.agg #[.int .i64 wd, .int .i64 pl], v]) ∧ Own E w' w.heap.size v xs ∧ xs.length ≤ 9000 ∧ Below w.heap.size w w'
theorem drawSyndromeOf_any (ao : Option Addr) (n cap : Nat) (cs : List Int) (w : World) (hr : RdB w w.heap.size ao n cs) (hn : n ≤ 1048576) :
    Calls Try.prog 33 #[.slice ao n cap] w (DrawnCL 2 w) := by
  have hb0 : Below w.heap.size w (w.alloc (.cells #[.int .i64 0, .int .i64 0] 25)) := (Below.refl _ _).alloc (Nat.le_refl _) _
  have hR0 : StructAt 25 (w.alloc (.cells #[.int .i64 0, .int .i64 0] 25)) w.heap.size 0 0 := StructAt.new w
  have hr0 := rdB_grow hr hb0
  have hsz : (w.alloc (.cells #[.int .i64 0, .int .i64 0] 25)).heap.size = w.heap.size + 1 := by simp
  have HB := Lib.hid hb0; clear hb0
  have HR := Lib.hid hr0; clear hr0 hr
  have HR0 := Lib.hid hR0; clear hR0
  have HSZ := Lib.hid hsz; clear hsz
  go_enter Try.func33, Try.ntmps33
  go_wp2_with fail
  generalize w.alloc (.cells #[.int .i64 0, .int .i64 0] 25) = w0 at HB HR HR0 HSZ ⊢
  refine (drawCrcOfBits_any _ _ _ cs _ HR.out hn).mono ?_
  rintro e w4 ⟨wd, pl, s, v, xs, rfl, o4, hxl, b4⟩
  have hlt : w.heap.size < w4.heap.size := by have := HSZ.out; have := b4.size; omega
  have R4 := Lib.hid (HR0.out.below b4 HR0.out.lt)
  have B5 := Lib.hid (b4.alloc b4.size (.cells #[.int .i64 wd, .int .i64 pl] 25))
  have O5 := Lib.hid (o4.below ((Below.refl w4.heap.size w4).alloc (Nat.le_refl _) (.cells #[.int .i64 wd, .int .i64 pl] 25)))
  have R5 := Lib.hid (R4.out.below ((Below.refl w4.heap.size w4).alloc (Nat.le_refl _) (.cells #[.int .i64 wd, .int .i64 pl] 25)) hlt)
  have C5 := Lib.hid (StructAt.new (T := 25) (x := wd) (y := pl) w4)
  obtain ⟨C, hC⟩ : ∃ C, C = w4.heap.size := ⟨_, rfl⟩
  have hne : C ≠ w.heap.size := by omega
  clear b4 o4 R4
  go_upto_region 2 with fail
  generalize w4.alloc (.cells #[.int .i64 wd, .int .i64 pl] 25) = w5 at B5 O5 R5 C5 ⊢
  rw [← hC] at C5 ⊢
  clear hC hlt
  have hr0 := R5.out.c0
  have hr1 := R5.out.c1
  have hq0 := R5.out.f0 0
  have hq1 := R5.out.f0 1
  have hc0 := C5.out.c0
  have hc1 := C5.out.c1
  go_wp2
  have h6 : Below w.heap.size w5 ((w5.setCell ⟨w.heap.size, 0, none⟩ (.int .i64 wd)).setCell ⟨w.heap.size, 1, none⟩ (.int .i64 pl)) := ((Below.refl _ _).setCell (by simp) _).setCell (by simp) _
  have hR6 := (R5.out.set0 wd).set1 pl
  have hd0 := hR6.c0
  have hd1 := hR6.c1
  clear hr0 hr1 hq0 hq1 hR6 hc0 hc1
  have hlt : w.heap.size < w0.heap.size := by have := HSZ.out; omega
  have hO := own_far (a := .int .i64 wd) (b := .int .i64 pl) O5.out hlt
  exact bodyPost_ret (v := .tuple #[.agg #[.int .i64 wd, .int .i64 pl], v]) (by simp [results, Try.results33, go_sem, hd0, hd1]) rfl ⟨_, _, _, xs, rfl, hO.more (Nat.le_of_lt hlt), hxl, (below_two HB.out B5.out).trans h6⟩
end Go.Proofs.Ytadmpfmpmpdbeaa
