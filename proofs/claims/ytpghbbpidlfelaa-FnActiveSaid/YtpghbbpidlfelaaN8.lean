/-
  Chapter 10: FindNode of the program and of its model.
-/
import Derived.Test.YtpghbbpidlfelaaN7
namespace Go.Proofs.Ytpghbbpidlfelaa
open Go.RowKit

/-- The four stores of an entry. -/
def setNd (w : World) (b off : Nat) (x : Nd) : World := (((w.setCell ⟨b, off, none⟩ (.int .i64 x.id)).setCell ⟨b, off + 1, none⟩ (.string x.name)).setCell ⟨b, off + 2, none⟩ (.int .i64 x.drift)).setCell ⟨b, off + 3, none⟩ (.bool x.pas)
theorem below_nd {B b off : Nat} {w : World} (hb : B ≤ b) (x : Nd) : Below B w (setNd w b off x) := ((((Below.refl _ _).setCell hb _).setCell hb _).setCell hb _).setCell hb _
theorem below_two'' {B : Nat} {a w w' : World} (h : Below B a w) (k : Below B w w') : Below B a w' := h.trans k
section
variable {T b : Nat} {w : World} {d : Int} {s : ByteArray} {f : Int} {p : Bool}
theorem NdAt.set0 (h : NdAt T w b ⟨d, s, f, p⟩) (z : Int) : NdAt T (w.setCell ⟨b, 0, none⟩ (.int .i64 z)) b ⟨z, s, f, p⟩ := by
  have := heap_setCell_same w b 0 _ _ (.int .i64 z) h
  simpa [NdAt] using this
theorem NdAt.set1 (h : NdAt T w b ⟨d, s, f, p⟩) (z : ByteArray) : NdAt T (w.setCell ⟨b, 1, none⟩ (.string z)) b ⟨d, z, f, p⟩ := by
  have := heap_setCell_same w b 1 _ _ (.string z) h
  simpa [NdAt] using this
theorem NdAt.set2 (h : NdAt T w b ⟨d, s, f, p⟩) (z : Int) : NdAt T (w.setCell ⟨b, 2, none⟩ (.int .i64 z)) b ⟨d, s, z, p⟩ := by
  have := heap_setCell_same w b 2 _ _ (.int .i64 z) h
  simpa [NdAt] using this
theorem NdAt.set3 (h : NdAt T w b ⟨d, s, f, p⟩) (z : Bool) : NdAt T (w.setCell ⟨b, 3, none⟩ (.bool z)) b ⟨d, s, f, z⟩ := by
  have := heap_setCell_same w b 3 _ _ (.bool z) h
  simpa [NdAt] using this
end
theorem NdAt.put {T b : Nat} {w : World} {x : Nd} (h : NdAt T w b x) (y : Nd) : NdAt T (setNd w b 0 y) b y := by
  obtain ⟨d, s, f, p⟩ := x
  exact (((h.set0 y.id).set1 y.name).set2 y.drift).set3 y.pas
theorem NdAt.other {T b c off : Nat} {w : World} {x y : Nd} (h : NdAt T w b x) (hne : b ≠ c) : NdAt T (setNd w c off y) b x :=
  (heap_setCell_other _ _ _ _ hne).trans ((heap_setCell_other _ _ _ _ hne).trans ((heap_setCell_other _ _ _ _ hne).trans ((heap_setCell_other _ _ _ _ hne).trans h)))

set_option maxHeartbeats 1000000 in
set_option maxRecDepth 100000 in
theorem findNode_any (ao : Option Addr) (n cap : Nat) (t : List Nd) (d : Int) (w : World) (hr : RdN w ao n t) (hn : n ≤ cap) (hcap : cap ≤ 9223372036854775807) (hs : smallN t) :
    Calls Try.prog 29 #[.slice ao n cap, .int .i64 d] w (GivesNd w (findNode t d)) := by
  have hcall := Lib.hid (fun W (h : RdN W ao n t) => isTable_any ao n cap t W h hn hcap hs)
  have hb0 : ∀ X, Below w.heap.size w (w.alloc X) := fun X => (Below.refl w.heap.size w).alloc (Nat.le_refl _) X
  have HR0 := Lib.hid (fun X => hr.below (hb0 X))
  have HB0 := Lib.hid hb0; clear hb0
  have hz0 : NdAt 41 (w.alloc (.cells #[.int .i64 0, .string { data := #[] }, .int .i64 0, .bool false] 41)) w.heap.size Nd.zero := NdAt.new (x := Nd.zero) w
  have HZ0 := Lib.hid hz0; clear hz0
  have HL := Lib.hid hr.len
  have HR := Lib.hid hr; clear hr hs
  rcases ht : isTable t with _ | _
  · have HF := Lib.hid (fn_no (d := d) ht)
    go_enter Try.func29, Try.ntmps29
    go_wp2_with fail
    refine (hcall.out _ (HR0.out _)).mono ?_
    rintro e w1 ⟨rfl, b1⟩
    rw [ht]
    have HZ := Lib.hid (HZ0.out.below b1 HZ0.out.lt)
    have HB := Lib.hid (below_two (HB0.out _) b1); clear b1
    have f0 := (HZ.out).f 0; have f1 := (HZ.out).f 1; have f2 := (HZ.out).f 2; have f3 := (HZ.out).f 3
    obtain ⟨c0, c1, c2, c3⟩ := (HZ.out).in_
    go_wp2_with fail
    clear c0 c1 c2 c3 f0 f1 f2 f3
    change bodyPost _ _ _ _ _ (setNd w1 w.heap.size 0 ⟨0, { data := #[] }, 0, false⟩)
    have SF := (HZ.out).put ⟨0, { data := #[] }, 0, false⟩
    have BF := below_two'' (HB.out) (below_nd (w := w1) (off := 0) (Nat.le_refl w.heap.size) ⟨0, { data := #[] }, 0, false⟩)
    generalize setNd w1 w.heap.size 0 ⟨0, { data := #[] }, 0, false⟩ = wz at SF BF ⊢
    obtain ⟨e0, e1, e2, e3⟩ := SF.in_
    exact bodyPost_ret (v := .tuple #[.agg #[.int .i64 0, .string { data := #[] }, .int .i64 0, .bool false], .int .i64 1]) (by simp [results, Try.results29, go_sem, e0, e1, e2, e3]) rfl ⟨by rw [HF.out]; rfl, BF⟩
  have HH := Lib.hid (fun k => fn_hit (t := t) (d := d) (k := k) ht)
  have HM := Lib.hid (fn_miss (t := t) (d := d) ht)
  go_enter Try.func29, Try.ntmps29
  go_wp2_with fail
  refine (hcall.out _ (HR0.out _)).mono ?_
  rintro e w1 ⟨rfl, b1⟩
  rw [ht]
  have HZ := Lib.hid (HZ0.out.below b1 HZ0.out.lt)
  have HLT := Lib.hid (show w.heap.size < w1.heap.size from HZ.out.lt)
  have HR1 := Lib.hid ((HR0.out _).below b1)
  have HB := Lib.hid (below_two (HB0.out _) b1); clear b1
  clear hcall HR0 HB0 HZ0 HR
  go_wp2_with fail
  go_loopw [14] (fun i wr => ∃ k : Nat, k ≤ n ∧ i = .int .i64 k ∧ Below w1.heap.size w1 wr ∧ Hid (noId t d k)) (fun i _ => n - (intOf i).toNat)
  case atStart => exact ⟨0, Nat.zero_le _, rfl, Below.refl _ _, fun i h => absurd h (by omega)⟩
  case round =>
    obtain ⟨k, hk, rfl, hb, hno⟩ := hrel
    have HZr := Lib.hid (HZ.out.below hb HLT.out)
    have HBr := Lib.hid (below_two HB.out hb)
    by_cases hlt : k < n
    · obtain ⟨g, off, rfl, hg, hx⟩ := HR1.out.at hlt
      replace hx := hx.below hb hg
      have hkt : k < t.length := by rw [HL.out]; exact hlt
      have hgne : g ≠ w.heap.size ∨ g = w.heap.size := by omega
      have e1 : (ndOf t k).id = d → findNode t d = (ndOf t k, 0) := fun h => HH.out k hkt hno.out h
      have e2 : (ndOf t k).id ≠ d → noId t d (k + 1) := fun h => noId_succ hno.out h
      obtain ⟨x, hxe⟩ : ∃ x, x = ndOf t k := ⟨_, rfl⟩
      rw [← hxe] at hx e1 e2
      have E1 := Lib.hid e1; have E2 := Lib.hid e2; clear e1 e2 hxe hgne
      have HBB := Lib.hid hb; clear hb
      obtain ⟨xi, xn, xf, xp⟩ := x
      obtain ⟨h0, h1, h2, h3⟩ := hx
      dsimp only at *
      by_cases hid : xi = d
      · have hid' : (xi == d) = true := by simp [hid]
        have HF := Lib.hid (E1.out hid); clear E1 E2 hid
        have hbx := (Below.refl wr.heap.size wr).alloc (Nat.le_refl _) (.cells #[.int .i64 xi, .string xn, .int .i64 xf, .bool xp] 41)
        have HZx := Lib.hid (HZr.out.below hbx HZr.out.lt)
        have HBx := Lib.hid (below_two HBr.out hbx)
        clear hbx
        have f0 := (HZx.out).f 0; have f1 := (HZx.out).f 1; have f2 := (HZx.out).f 2; have f3 := (HZx.out).f 3
        obtain ⟨c0, c1, c2, c3⟩ := (HZx.out).in_
        go_wp2_with fail
        clear c0 c1 c2 c3 f0 f1 f2 f3 h0 h1 h2 h3
        change bodyPost _ _ _ _ _ (setNd (wr.alloc (.cells #[.int .i64 xi, .string xn, .int .i64 xf, .bool xp] 41)) w.heap.size 0 ⟨xi, xn, xf, xp⟩)
        have SF := (HZx.out).put ⟨xi, xn, xf, xp⟩
        have BF := below_two'' (HBx.out) (below_nd (w := (wr.alloc (.cells #[.int .i64 xi, .string xn, .int .i64 xf, .bool xp] 41))) (off := 0) (Nat.le_refl w.heap.size) ⟨xi, xn, xf, xp⟩)
        generalize setNd (wr.alloc (.cells #[.int .i64 xi, .string xn, .int .i64 xf, .bool xp] 41)) w.heap.size 0 ⟨xi, xn, xf, xp⟩ = wz at SF BF ⊢
        obtain ⟨e0, e1, e2, e3⟩ := SF.in_
        exact bodyPost_ret (v := .tuple #[.agg #[.int .i64 xi, .string xn, .int .i64 xf, .bool xp], .int .i64 0]) (by simp [results, Try.results29, go_sem, e0, e1, e2, e3]) rfl ⟨by rw [HF.out]; rfl, BF⟩
      · have hid' : (xi == d) = false := by simp [hid]
        have HF := Lib.hid (E2.out hid); clear E1 E2 hid
        go_wp2_with fail
        go_roundw
        case rel => exact ⟨k + 1, by omega, by go_num, below_two HBB.out ((Below.refl wr.heap.size wr).alloc (Nat.le_refl _) _), HF.out⟩
        case measure => simp [intOf]; omega
    · have hkn : k = n := by omega
      subst hkn
      have HF := Lib.hid (HM.out (by rw [HL.out]; exact hno.out))
      have f0 := (HZr.out).f 0; have f1 := (HZr.out).f 1; have f2 := (HZr.out).f 2; have f3 := (HZr.out).f 3
      obtain ⟨c0, c1, c2, c3⟩ := (HZr.out).in_
      go_wp2_with fail
      clear c0 c1 c2 c3 f0 f1 f2 f3
      change bodyPost _ _ _ _ _ (setNd wr w.heap.size 0 ⟨0, { data := #[] }, 0, false⟩)
      have SF := (HZr.out).put ⟨0, { data := #[] }, 0, false⟩
      have BF := below_two'' (HBr.out) (below_nd (w := wr) (off := 0) (Nat.le_refl w.heap.size) ⟨0, { data := #[] }, 0, false⟩)
      generalize setNd wr w.heap.size 0 ⟨0, { data := #[] }, 0, false⟩ = wz at SF BF ⊢
      obtain ⟨e0, e1, e2, e3⟩ := SF.in_
      exact bodyPost_ret (v := .tuple #[.agg #[.int .i64 0, .string { data := #[] }, .int .i64 0, .bool false], .int .i64 4]) (by simp [results, Try.results29, go_sem, e0, e1, e2, e3]) rfl ⟨by rw [HF.out]; rfl, BF⟩
set_option maxHeartbeats 1000000 in
set_option maxRecDepth 100000 in
theorem sFindNode_any (ao : Option Addr) (n cap : Nat) (t : List Nd) (d : Int) (w : World) (hr : RdN w ao n t) (hn : n ≤ cap) (hcap : cap ≤ 9223372036854775807) (hs : smallN t) :
    Calls Try.prog 30 #[.slice ao n cap, .int .i64 d] w (GivesNd w (findNode t d)) := by
  have hcall := Lib.hid (fun W (h : RdN W ao n t) => sIsTable_any ao n cap t W h hn hcap hs)
  have hb0 : ∀ X, Below w.heap.size w (w.alloc X) := fun X => (Below.refl w.heap.size w).alloc (Nat.le_refl _) X
  have HR0 := Lib.hid (fun X => hr.below (hb0 X))
  have HB0 := Lib.hid hb0; clear hb0
  have hz0 : NdAt 41 (w.alloc (.cells #[.int .i64 0, .string { data := #[] }, .int .i64 0, .bool false] 41)) w.heap.size Nd.zero := NdAt.new (x := Nd.zero) w
  have HZ0 := Lib.hid hz0; clear hz0
  have HL := Lib.hid hr.len
  have HR := Lib.hid hr; clear hr hs
  rcases ht : isTable t with _ | _
  · have HF := Lib.hid (fn_no (d := d) ht)
    go_enter Try.func30, Try.ntmps30
    go_wp2_with fail
    refine (hcall.out _ (HR0.out _)).mono ?_
    rintro e w1 ⟨rfl, b1⟩
    rw [ht]
    have HZ := Lib.hid (HZ0.out.below b1 HZ0.out.lt)
    have HB := Lib.hid (below_two (HB0.out _) b1); clear b1
    have f0 := (HZ.out).f 0; have f1 := (HZ.out).f 1; have f2 := (HZ.out).f 2; have f3 := (HZ.out).f 3
    obtain ⟨c0, c1, c2, c3⟩ := (HZ.out).in_
    go_wp2_with fail
    clear c0 c1 c2 c3 f0 f1 f2 f3
    change bodyPost _ _ _ _ _ (setNd w1 w.heap.size 0 ⟨0, { data := #[] }, 0, false⟩)
    have SF := (HZ.out).put ⟨0, { data := #[] }, 0, false⟩
    have BF := below_two'' (HB.out) (below_nd (w := w1) (off := 0) (Nat.le_refl w.heap.size) ⟨0, { data := #[] }, 0, false⟩)
    generalize setNd w1 w.heap.size 0 ⟨0, { data := #[] }, 0, false⟩ = wz at SF BF ⊢
    obtain ⟨e0, e1, e2, e3⟩ := SF.in_
    exact bodyPost_ret (v := .tuple #[.agg #[.int .i64 0, .string { data := #[] }, .int .i64 0, .bool false], .int .i64 1]) (by simp [results, Try.results30, go_sem, e0, e1, e2, e3]) rfl ⟨by rw [HF.out]; rfl, BF⟩
  have HH := Lib.hid (fun k => fn_hit (t := t) (d := d) (k := k) ht)
  have HM := Lib.hid (fn_miss (t := t) (d := d) ht)
  go_enter Try.func30, Try.ntmps30
  go_wp2_with fail
  refine (hcall.out _ (HR0.out _)).mono ?_
  rintro e w1 ⟨rfl, b1⟩
  rw [ht]
  have HZ := Lib.hid (HZ0.out.below b1 HZ0.out.lt)
  have HLT := Lib.hid (show w.heap.size < w1.heap.size from HZ.out.lt)
  have HR1 := Lib.hid ((HR0.out _).below b1)
  have HB := Lib.hid (below_two (HB0.out _) b1); clear b1
  clear hcall HR0 HB0 HZ0 HR
  go_wp2_with fail
  go_loopw [6] (fun i wr => ∃ k : Nat, k ≤ n ∧ i = .int .i64 k ∧ Below w1.heap.size w1 wr ∧ Hid (noId t d k)) (fun i _ => n - (intOf i).toNat)
  case atStart => exact ⟨0, Nat.zero_le _, rfl, Below.refl _ _, fun i h => absurd h (by omega)⟩
  case round =>
    obtain ⟨k, hk, rfl, hb, hno⟩ := hrel
    have HZr := Lib.hid (HZ.out.below hb HLT.out)
    have HBr := Lib.hid (below_two HB.out hb)
    by_cases hlt : k < n
    · obtain ⟨g, off, rfl, hg, hx⟩ := HR1.out.at hlt
      replace hx := hx.below hb hg
      have hkt : k < t.length := by rw [HL.out]; exact hlt
      have hgne : g ≠ w.heap.size ∨ g = w.heap.size := by omega
      have e1 : (ndOf t k).id = d → findNode t d = (ndOf t k, 0) := fun h => HH.out k hkt hno.out h
      have e2 : (ndOf t k).id ≠ d → noId t d (k + 1) := fun h => noId_succ hno.out h
      obtain ⟨x, hxe⟩ : ∃ x, x = ndOf t k := ⟨_, rfl⟩
      rw [← hxe] at hx e1 e2
      have E1 := Lib.hid e1; have E2 := Lib.hid e2; clear e1 e2 hxe hgne
      have HBB := Lib.hid hb; clear hb
      obtain ⟨xi, xn, xf, xp⟩ := x
      obtain ⟨h0, h1, h2, h3⟩ := hx
      dsimp only at *
      by_cases hid : xi = d
      · have hid' : (xi == d) = true := by simp [hid]
        have HF := Lib.hid (E1.out hid); clear E1 E2 hid
        have f0 := (HZr.out).f 0; have f1 := (HZr.out).f 1; have f2 := (HZr.out).f 2; have f3 := (HZr.out).f 3
        obtain ⟨c0, c1, c2, c3⟩ := (HZr.out).in_
        go_wp2_with fail
        clear c0 c1 c2 c3 f0 f1 f2 f3
        change bodyPost _ _ _ _ _ (setNd wr w.heap.size 0 ⟨xi, xn, xf, xp⟩)
        have SF := (HZr.out).put ⟨xi, xn, xf, xp⟩
        have BF := below_two'' (HBr.out) (below_nd (w := wr) (off := 0) (Nat.le_refl w.heap.size) ⟨xi, xn, xf, xp⟩)
        generalize setNd wr w.heap.size 0 ⟨xi, xn, xf, xp⟩ = wz at SF BF ⊢
        obtain ⟨e0, e1, e2, e3⟩ := SF.in_
        exact bodyPost_ret (v := .tuple #[.agg #[.int .i64 xi, .string xn, .int .i64 xf, .bool xp], .int .i64 0]) (by simp [results, Try.results30, go_sem, e0, e1, e2, e3]) rfl ⟨by rw [HF.out]; rfl, BF⟩
      · have hid' : (xi == d) = false := by simp [hid]
        have HF := Lib.hid (E2.out hid); clear E1 E2 hid
        go_wp2_with fail
        go_roundw
        case rel => exact ⟨k + 1, by omega, by go_num, HBB.out, HF.out⟩
        case measure => simp [intOf]; omega
    · have hkn : k = n := by omega
      subst hkn
      have HF := Lib.hid (HM.out (by rw [HL.out]; exact hno.out))
      have f0 := (HZr.out).f 0; have f1 := (HZr.out).f 1; have f2 := (HZr.out).f 2; have f3 := (HZr.out).f 3
      obtain ⟨c0, c1, c2, c3⟩ := (HZr.out).in_
      go_wp2_with fail
      clear c0 c1 c2 c3 f0 f1 f2 f3
      change bodyPost _ _ _ _ _ (setNd wr w.heap.size 0 ⟨0, { data := #[] }, 0, false⟩)
      have SF := (HZr.out).put ⟨0, { data := #[] }, 0, false⟩
      have BF := below_two'' (HBr.out) (below_nd (w := wr) (off := 0) (Nat.le_refl w.heap.size) ⟨0, { data := #[] }, 0, false⟩)
      generalize setNd wr w.heap.size 0 ⟨0, { data := #[] }, 0, false⟩ = wz at SF BF ⊢
      obtain ⟨e0, e1, e2, e3⟩ := SF.in_
      exact bodyPost_ret (v := .tuple #[.agg #[.int .i64 0, .string { data := #[] }, .int .i64 0, .bool false], .int .i64 4]) (by simp [results, Try.results30, go_sem, e0, e1, e2, e3]) rfl ⟨by rw [HF.out]; rfl, BF⟩
end Go.Proofs.Ytpghbbpidlfelaa
