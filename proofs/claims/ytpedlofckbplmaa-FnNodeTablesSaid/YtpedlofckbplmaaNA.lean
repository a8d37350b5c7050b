/-
  Chapter 10: NodeTableBytes of the program and of its model.
-/
import Derived.Test.YtpedlofckbplmaaN9
namespace Go.Proofs.Ytpedlofckbplmaa
open Go.RowKit

theorem bytes_yes {t : List Nd} (h : isTable t = true) : nodeTableBytes t = (tabBytes t, 0) := by unfold nodeTableBytes; rw [if_pos h]
theorem bytes_no {t : List Nd} (h : isTable t = false) : nodeTableBytes t = ([], 1) := by unfold nodeTableBytes; rw [if_neg (by rw [h]; simp)]
theorem nodeTableBytes_len (t : List Nd) : (nodeTableBytes t).1.length ≤ 1048576 := by
  unfold nodeTableBytes
  split
  · rename_i h; have := tabBytes_len h; simp only; omega
  · simp
/-- spec.NodeTableBytes. -/
theorem sNodeTableBytes_any (ao : Option Addr) (n cap : Nat) (t : List Nd) (w : World) (hr : RdN w ao n t) (hn : n ≤ cap) (hcap : cap ≤ 9223372036854775807) (hs : smallN t) :
    Calls Try.prog 12 #[.slice ao n cap] w (Makes2 2 w (nodeTableBytes t).1 (nodeTableBytes t).2) := by
  have hcall := Lib.hid (sIsTable_any ao n cap t w hr hn hcap hs)
  rcases ht : isTable t with _ | _
  · rw [bytes_no ht]
    clear hr hs
    go_enter Try.func12, Try.ntmps12
    go_wp2_with (go_at_call 19; refine hcall.out.mono ?_; rintro e w1 ⟨rfl, b1⟩; rw [ht])
    go_ret2
    exact ⟨_, rfl, Own.nil_, b1⟩
  rw [bytes_yes ht]
  have hl := (isTable_iff.1 ht).1
  rw [hr.len] at hl
  have HR := Lib.hid hr
  have hby := Lib.hid (fun W (h : RdN W ao n t) => l10Bytes_any ao n cap t W h (by omega) (okB_table ht))
  clear hr hs
  go_enter Try.func12, Try.ntmps12
  go_wp2_with (go_at_call 19; refine hcall.out.mono ?_; rintro e w1 ⟨rfl, b1⟩; rw [ht])
  have hr1 := HR.out.below b1
  have HB1 := Lib.hid b1
  refine (hby.out _ hr1).mono ?_
  rintro e w2 ⟨v, rfl, o2, b2⟩
  clear hr1
  go_wp2_with fail
  go_ret2
  exact ⟨_, rfl, o2.more HB1.out.size, below_two HB1.out b2⟩
set_option maxHeartbeats 2000000 in
set_option maxRecDepth 100000 in
set_option linter.unusedSimpArgs false in
/-- impl.NodeTableBytes. -/
theorem nodeTableBytes_any (ao : Option Addr) (n cap : Nat) (t : List Nd) (w : World) (hr : RdN w ao n t) (hn : n ≤ cap) (hcap : cap ≤ 9223372036854775807) (hs : smallN t) :
    Calls Try.prog 11 #[.slice ao n cap] w (Makes2 2 w (nodeTableBytes t).1 (nodeTableBytes t).2) := by
  have hcall := Lib.hid (isTable_any ao n cap t w hr hn hcap hs)
  rcases ht : isTable t with _ | _
  · rw [bytes_no ht]
    clear hr hs
    go_enter Try.func11, Try.ntmps11
    go_wp2_with (go_at_call 18; refine hcall.out.mono ?_; rintro e w1 ⟨rfl, b1⟩; rw [ht])
    go_ret2
    exact ⟨_, rfl, Own.nil_, b1⟩
  rw [bytes_yes ht]
  have hl := (isTable_iff.1 ht).1
  rw [hr.len] at hl
  have HL := Lib.hid hr.len
  have HB1 := Lib.hid (okB_table ht)
  have HR0 := Lib.hid hr
  clear hr hs
  go_enter Try.func11, Try.ntmps11
  go_wp2_with (go_at_call 18; refine hcall.out.mono ?_; rintro e w1 ⟨rfl, b1⟩; rw [ht])
  have HR := Lib.hid (HR0.out.below b1)
  have HBA := Lib.hid b1
  have hone := Own.one (E := 2) (base := w1.heap.size) (w := w1) (n : Int) (Nat.le_refl _)
  have htz : tabToN t 0 = [(n : Int)] := by rw [tabToN_zero, HL.out]
  rw [← htz] at hone
  have hb0 : Below w1.heap.size w1 (w1.alloc (.cells #[.int .i64 (n : Int)] 2)) := (Below.refl _ _).alloc (Nat.le_refl _) _
  clear b1 HR0 hcall
  go_loopw [4, 17] (fun o i wr => ∃ k : Nat, k ≤ n ∧ i = .int .i64 k ∧ Own 2 wr w1.heap.size o (tabToN t k) ∧ Below w1.heap.size w1 wr) (fun _ i _ => n - (intOf i).toNat)
  case atStart => exact ⟨0, Nat.zero_le _, rfl, hone, hb0⟩
  case round =>
    clear hone htz hb0
    obtain ⟨k, hk, rfl, hown, hb⟩ := hrel
    by_cases hlt : k < n
    · have hkt : k < t.length := by rw [HL.out]; exact hlt
      obtain ⟨g, off, rfl, hg, hx⟩ := HR.out.at hlt
      replace hx := hx.below hb hg
      have hdr := HB1.out.2 k hkt
      have hsucc := tabToN_succ hkt
      have hle : (tabToN t (k + 1)).length ≤ 1000000 := Nat.le_trans tabToN_le HB1.out.1
      rw [hsucc, List.length_append, ndBytes_len] at hle
      obtain ⟨x, hxe⟩ : ∃ x, x = ndOf t k := ⟨_, rfl⟩
      rw [← hxe] at hx hdr hsucc hle
      obtain ⟨hd, hde⟩ : ∃ hd, hd = tabToN t k := ⟨_, rfl⟩
      rw [← hde] at hown hle hsucc
      have hq1 : IntKind.i64.wrap (x.drift.tdiv 256) = x.drift / 256 := by rw [Int.tdiv_eq_ediv_of_nonneg hdr.1, IntKind.wrap_i64]; omega
      have hq2 : x.drift.tmod 256 = x.drift % 256 := by rw [Int.tmod_eq_emod_of_nonneg hdr.1]
      have hw0 : wr.heap.size < (wr.alloc (.cells #[.int .i64 x.id, .string x.name, .int .i64 x.drift, .bool x.pas] 59)).heap.size := by simp
      have hbb : Below wr.heap.size wr (wr.alloc (.cells #[.int .i64 x.id, .string x.name, .int .i64 x.drift, .bool x.pas] 59)) := (Below.refl _ _).alloc (Nat.le_refl _) _
      have HAT := Lib.hid (NdAt.new (T := 59) (x := x) wr)
      have HOW := Lib.hid (hown.below hbb)
      have HBE := Lib.hid (below_two hb hbb)
      have HSU := Lib.hid hsucc; have HLE := Lib.hid hle
      have hsl : x.name.size ≤ 1000000 := by omega
      clear hxe hde hkt hown hb hsucc hle hdr hbb
      obtain ⟨h0, h1, h2, h3⟩ := hx
      obtain ⟨xi, xn, xf, xp⟩ := x
      dsimp only at *
      go_upto_region 7 with fail
      clear h0 h1 h2 h3
      generalize hbx : wr.heap.size = bx at HAT HOW hw0 ⊢
      generalize wr.alloc (.cells #[.int .i64 xi, .string xn, .int .i64 xf, .bool xp] 59) = w3 at HAT HOW HBE hw0 ⊢
      clear hbx
      have HNE := Lib.hid (HOW.out.ne_nd HAT.out (by decide))
      refine wp_region_held_drew (S := fun w' => w'.cell? ⟨bx, 0, none⟩ = some (.int .i64 xi) ∧ w'.cell? ⟨bx, 1, none⟩ = some (.string xn) ∧ w'.cell? ⟨bx, 2, none⟩ = some (.int .i64 xf) ∧ w'.cell? ⟨bx, 3, none⟩ = some (.bool xp)) (by kernel_rfl) (⟨(HAT.out).in_.c0, (HAT.out).in_.c1, (HAT.out).in_.c2, (HAT.out).in_.c3⟩) (fun hHeld => ?_)
      refine wpAnyH_take (i := 0) (v := ?_) rfl (by kernel_rfl) (by kernel_rfl) (by kernel_rfl) (fun _ _ _ h => h) (Or.inl ⟨by rfl, ?_⟩) (by assumption) ?_
      rotate_left
      · (intro w hSw; (try dsimp only at hSw); go_simp; (try with_reducible rfl))
      try simp only [List.getElem_toArray, List.getElem_cons_succ, List.getElem_cons_zero, Act.put, List.setIfInBounds_toArray, List.set_cons_zero, List.set_cons_succ]
      refine wpAnyH_take (i := 1) (v := ?_) rfl (by kernel_rfl) (by kernel_rfl) (by kernel_rfl) (fun _ _ _ h => h) (Or.inl ⟨by rfl, ?_⟩) (by assumption) ?_
      rotate_left
      · (intro w hSw; (try dsimp only at hSw); go_simp; (try with_reducible rfl))
      try simp only [List.getElem_toArray, List.getElem_cons_succ, List.getElem_cons_zero, Act.put, List.setIfInBounds_toArray, List.set_cons_zero, List.set_cons_succ]
      refine wpAnyH_take (i := 2) (v := ?_) rfl (by kernel_rfl) (by kernel_rfl) (by kernel_rfl) (fun _ _ _ h => h) (Or.inl ⟨by rfl, ?_⟩) (by assumption) ?_
      rotate_left
      · (intro w hSw; (try dsimp only at hSw); go_simp; (try with_reducible rfl))
      try simp only [List.getElem_toArray, List.getElem_cons_succ, List.getElem_cons_zero, Act.put, List.setIfInBounds_toArray, List.set_cons_zero, List.set_cons_succ]
      refine wpAnyH_take (i := 3) (v := ?_) rfl (by kernel_rfl) (by kernel_rfl) (by kernel_rfl) (fun _ _ _ h => h) (Or.inl ⟨by rfl, ?_⟩) (by assumption) ?_
      rotate_left
      · (intro w hSw; (try dsimp only at hSw); go_simp; (try with_reducible rfl))
      try simp only [List.getElem_toArray, List.getElem_cons_succ, List.getElem_cons_zero, Act.put, List.setIfInBounds_toArray, List.set_cons_zero, List.set_cons_succ]
      refine wpAnyH_take (i := 4) (v := ?_) rfl (by kernel_rfl) (by kernel_rfl) (by kernel_rfl) (fun _ _ _ h => h) (Or.inl ⟨by rfl, ?_⟩) (by assumption) ?_
      rotate_left
      · (intro w hSw; (try dsimp only at hSw); go_simp; (try with_reducible rfl))
      try simp only [List.getElem_toArray, List.getElem_cons_succ, List.getElem_cons_zero, Act.put, List.setIfInBounds_toArray, List.set_cons_zero, List.set_cons_succ]
      refine wpAnyH_take (i := 5) (v := ?_) rfl (by kernel_rfl) (by kernel_rfl) (by kernel_rfl) (fun _ _ _ h => h) (Or.inl ⟨by rfl, ?_⟩) (by assumption) ?_
      rotate_left
      · (intro w hSw; (try dsimp only at hSw); go_simp; (try with_reducible rfl))
      try simp only [List.getElem_toArray, List.getElem_cons_succ, List.getElem_cons_zero, Act.put, List.setIfInBounds_toArray, List.set_cons_zero, List.set_cons_succ]
      refine wpAnyH_take (i := 6) (v := ?_) rfl (by kernel_rfl) (by kernel_rfl) (by kernel_rfl) (fun _ _ _ h => h) (Or.inl ⟨by rfl, ?_⟩) (by assumption) ?_
      rotate_left
      · (intro w hSw; (try dsimp only at hSw); go_simp; (try with_reducible rfl))
      try simp only [List.getElem_toArray, List.getElem_cons_succ, List.getElem_cons_zero, Act.put, List.setIfInBounds_toArray, List.set_cons_zero, List.set_cons_succ]
      refine wpAnyH_take (i := 7) (v := ?_) rfl (by kernel_rfl) (by kernel_rfl) (by kernel_rfl) (fun _ _ _ h => h) (Or.inl ⟨by rfl, ?_⟩) (by assumption) ?_
      rotate_left
      · (intro w hSw; (try dsimp only at hSw); go_simp; (try with_reducible rfl))
      try simp only [List.getElem_toArray, List.getElem_cons_succ, List.getElem_cons_zero, Act.put, List.setIfInBounds_toArray, List.set_cons_zero, List.set_cons_succ]
      refine wpAnyH_take (i := 8) (v := ?_) rfl (by kernel_rfl) (by kernel_rfl) (by kernel_rfl) (fun _ _ _ h => h) (Or.inl ⟨by rfl, ?_⟩) (by assumption) ?_
      rotate_left
      · (intro w hSw; (try dsimp only at hSw); go_simp; (try with_reducible rfl))
      try simp only [List.getElem_toArray, List.getElem_cons_succ, List.getElem_cons_zero, Act.put, List.setIfInBounds_toArray, List.set_cons_zero, List.set_cons_succ]
      refine wpAnyH_take (i := 9) (v := ?_) rfl (by kernel_rfl) (by kernel_rfl) (by kernel_rfl) (fun _ _ _ h => h) (Or.inl ⟨by rfl, ?_⟩) (by assumption) ?_
      rotate_left
      · (intro w hSw; (try dsimp only at hSw); go_simp; (try with_reducible rfl))
      try simp only [List.getElem_toArray, List.getElem_cons_succ, List.getElem_cons_zero, Act.put, List.setIfInBounds_toArray, List.set_cons_zero, List.set_cons_succ]
      refine wpAnyH_take (i := 10) (v := ?_) rfl (by kernel_rfl) (by kernel_rfl) (by kernel_rfl) (fun _ _ _ h => h) (Or.inl ⟨by rfl, ?_⟩) (by assumption) ?_
      rotate_left
      · (intro w hSw; (try dsimp only at hSw); go_simp; (try with_reducible rfl))
      try simp only [List.getElem_toArray, List.getElem_cons_succ, List.getElem_cons_zero, Act.put, List.setIfInBounds_toArray, List.set_cons_zero, List.set_cons_succ]
      refine wpAnyH_take (i := 12) (v := ?_) rfl (by kernel_rfl) (by kernel_rfl) (by kernel_rfl) (fun _ _ _ h => h) (Or.inl ⟨by rfl, ?_⟩) (by assumption) ?_
      rotate_left
      · (intro w hSw; (try dsimp only at hSw); go_simp; (try with_reducible rfl))
      try simp only [List.getElem_toArray, List.getElem_cons_succ, List.getElem_cons_zero, Act.put, List.setIfInBounds_toArray, List.set_cons_zero, List.set_cons_succ]
      refine wpAnyH_take (i := 13) (v := ?_) rfl (by kernel_rfl) (by kernel_rfl) (by kernel_rfl) (fun _ _ _ h => h) (Or.inl ⟨by rfl, ?_⟩) (by assumption) ?_
      rotate_left
      · (intro w hSw; (try dsimp only at hSw); go_simp; (try with_reducible rfl))
      try simp only [List.getElem_toArray, List.getElem_cons_succ, List.getElem_cons_zero, Act.put, List.setIfInBounds_toArray, List.set_cons_zero, List.set_cons_succ]
      refine wpAnyH_take (i := 14) (v := ?_) rfl (by kernel_rfl) (by kernel_rfl) (by kernel_rfl) (fun _ _ _ h => h) (Or.inl ⟨by rfl, ?_⟩) (by assumption) ?_
      rotate_left
      · (intro w hSw; (try dsimp only at hSw); go_simp; (try with_reducible rfl))
      try simp only [List.getElem_toArray, List.getElem_cons_succ, List.getElem_cons_zero, Act.put, List.setIfInBounds_toArray, List.set_cons_zero, List.set_cons_succ]
      refine wpAnyH_ready (rs := [11]) (by kernel_rfl) (by simp) (AllReadyH.cons rfl (fun K hK => ?_) AllReadyH.nil)
      go_simp
      refine (flag_any _ _).mono ?_
      rintro e w4 ⟨rfl, b4⟩
      replace b4 := below_two (Below.drew (Below.refl w3.heap.size w3)) b4
      have HAT4 := Lib.hid (HAT.out.below b4 hw0)
      have HOW4 := Lib.hid (HOW.out.below b4)
      have HBE4 := Lib.hid (HBE.out.trans (b4.mono HBE.out.size))
      have hw4 : bx < w4.heap.size := HAT4.out.lt
      clear b4 HAT HOW HBE hw0
      go_wp2_with fail
      refine hK.out _ _ ?_ (fun hHeld => ?_)
      · exact ⟨(HAT4.out).in_.c0, (HAT4.out).in_.c1, (HAT4.out).in_.c2, (HAT4.out).in_.c3⟩
      clear hK K
      try simp only [List.getElem_toArray, List.getElem_cons_succ, List.getElem_cons_zero, Act.put, List.setIfInBounds_toArray, List.set_cons_zero, List.set_cons_succ]
      have HNE4 := Lib.hid (HOW4.out.ne_nd HAT4.out (by decide))
      have hrd := rd_five 2 xi (xf / 256) (xf % 256) (flag10 xp) (xn.size : Int) w4
      have hbl : Below w4.heap.size w4 (w4.alloc (.cells #[.int .i64 xi, .int .i64 (xf / 256), .int .i64 (xf % 256), .int .i64 (flag10 xp), .int .i64 (xn.size : Int)] 2)) := (Below.refl _ _).alloc (Nat.le_refl _) _
      have HAT5 := Lib.hid (HAT4.out.below hbl hw4)
      have HOW5 := Lib.hid (HOW4.out.below hbl)
      have HBE5 := Lib.hid (HBE4.out.alloc HBE4.out.size (.cells #[.int .i64 xi, .int .i64 (xf / 256), .int .i64 (xf % 256), .int .i64 (flag10 xp), .int .i64 (xn.size : Int)] 2))
      refine wpAnyH_ready (rs := [15]) (by kernel_rfl) (by simp) (AllReadyH.cons rfl (fun K hK => ?_) AllReadyH.nil)
      go_simp
      refine hK.out _ _ ?_ (fun hHeld => ?_)
      · exact ⟨(HAT5.out).in_.c0, (HAT5.out).in_.c1, (HAT5.out).in_.c2, (HAT5.out).in_.c3⟩
      clear hK K
      try simp only [List.getElem_toArray, List.getElem_cons_succ, List.getElem_cons_zero, Act.put, List.setIfInBounds_toArray, List.set_cons_zero, List.set_cons_succ]
      refine wpAnyH_ready (rs := [16]) (by kernel_rfl) (by simp) (AllReadyH.cons rfl (fun K hK => ?_) AllReadyH.nil)
      refine app_op _ (.tmp 21) (.tmp 36) rfl w1.heap.size Try.underlying26 info64 _ hd rfl HOW5.out _ 5 _ [xi, xf / 256, xf % 256, flag10 xp, (xn.size : Int)] rfl hrd (by have := HLE.out; omega) HBE5.out.size ?_
      intro v5 w5 o5 g5
      have HAT6 := Lib.hid (HAT5.out.grown g5 (HNE4.out))
      have HBE6 := Lib.hid (HBE5.out.grown g5 HBE5.out.size (fun k hk => (HOW4.out.block k hk).1))
      have HO6 := Lib.hid o5; clear g5 o5 hrd hbl
      refine hK.out _ _ ?_ (fun hHeld => ?_)
      · exact ⟨(HAT6.out).in_.c0, (HAT6.out).in_.c1, (HAT6.out).in_.c2, (HAT6.out).in_.c3⟩
      clear hK K
      try simp only [List.getElem_toArray, List.getElem_cons_succ, List.getElem_cons_zero, Act.put, List.setIfInBounds_toArray, List.set_cons_zero, List.set_cons_succ]
      refine wpAnyH_take (i := 17) (v := ?_) rfl (by kernel_rfl) (by kernel_rfl) (by kernel_rfl) (fun _ _ _ h => h) (Or.inl ⟨by rfl, ?_⟩) (by assumption) ?_
      rotate_left
      · (intro w hSw; (try dsimp only at hSw); go_simp; (try with_reducible rfl))
      try simp only [List.getElem_toArray, List.getElem_cons_succ, List.getElem_cons_zero, Act.put, List.setIfInBounds_toArray, List.set_cons_zero, List.set_cons_succ]
      refine wpAnyH_done (by kernel_rfl) ?_ _
      have hcv := fun W => run_bytes_of_string (P := Try.prog) W 9 22 5 xn Try.underlying9 Try.underlying22 Try.underlying5
      obtain ⟨c0, c1, c2, c3⟩ := HAT6.out.in_
      go_wp2_with fail
      clear c0 c1 c2 c3 hcv
      have hbl : ∀ X, Below w5.heap.size w5 (w5.alloc X).drew := fun X => ((Below.refl w5.heap.size w5).alloc (Nat.le_refl _) X).drew
      have hby : BytesAt 5 (w5.alloc (.cells (bytesRow xn (grownCap w5 xn.size 0 5)) 5 ((bytesRow xn (grownCap w5 xn.size 0 5)).size, (bytesRow xn (grownCap w5 xn.size 0 5)).size + 1))).drew w5.heap.size xn := BytesAt.new (T := 5) w5.drew xn (grownCap w5 xn.size 0 5) ((bytesRow xn (grownCap w5 xn.size 0 5)).size, (bytesRow xn (grownCap w5 xn.size 0 5)).size + 1)
      have hb7 := HBE6.out.trans ((hbl (.cells (bytesRow xn (grownCap w5 xn.size 0 5)) 5 ((bytesRow xn (grownCap w5 xn.size 0 5)).size, (bytesRow xn (grownCap w5 xn.size 0 5)).size + 1))).mono HBE6.out.size)
      have ho7 := HO6.out.below (hbl (.cells (bytesRow xn (grownCap w5 xn.size 0 5)) 5 ((bytesRow xn (grownCap w5 xn.size 0 5)).size, (bytesRow xn (grownCap w5 xn.size 0 5)).size + 1)))
      generalize (w5.alloc (.cells (bytesRow xn (grownCap w5 xn.size 0 5)) 5 ((bytesRow xn (grownCap w5 xn.size 0 5)).size, (bytesRow xn (grownCap w5 xn.size 0 5)).size + 1))).drew = w7 at hby hb7 ho7 ⊢
      generalize w5.heap.size = bb at hby ⊢
      generalize grownCap w5 xn.size 0 5 = ccap
      have hd5l : (hd ++ [xi, xf / 256, xf % 256, flag10 xp, (xn.size : Int)]).length = hd.length + 5 := by simp
      obtain ⟨h5, hh5⟩ : ∃ h5, h5 = hd ++ [xi, xf / 256, xf % 256, flag10 xp, (xn.size : Int)] := ⟨_, rfl⟩
      rw [← hh5] at ho7 hd5l
      have HH5 := Lib.hid hh5; have HL5 := Lib.hid hd5l; clear hh5 hd5l
      have hnl := nums_len xn
      have HNL := Lib.hid hnl; clear hnl
      have o1' : Own 2 w7 w1.heap.size v5 (h5 ++ (nums xn).take 0) := by rw [List.take_zero, List.append_nil]; exact ho7
      have HBY := Lib.hid hby; have HB7 := Lib.hid hb7
      clear ho7 hbl hby hb7 HAT6 HBE6 HO6 HAT5 HOW5 HBE5 HAT4 HOW4 HBE4 HNE4 HNE hw4
      go_loopw [4, 42] (fun o i wq => ∃ m : Nat, m ≤ xn.size ∧ i = .int .i64 m ∧ Own 2 wq w1.heap.size o (h5 ++ (nums xn).take m) ∧ BytesAt 5 wq bb xn ∧ Below w1.heap.size w1 wq) (fun _ i _ => xn.size - (intOf i).toNat)
      case atStart => exact ⟨0, Nat.zero_le _, rfl, o1', HBY.out, HB7.out⟩
      case round =>
        clear o1' HBY HB7
        obtain ⟨m, hm, rfl, ho, ha, hb⟩ := hrel
        by_cases hmk : m < xn.size
        · have hng := nums_getD xn m hmk
          have hcell : wr.cell? ⟨bb, m, none⟩ = some (.int .u8 ((nums xn).getD m 0)) := by obtain ⟨_, _, -, h⟩ := ha; exact h m hmk
          have hkn : m < (nums xn).length := by rw [HNL.out]; exact hmk
          have hts : h5 ++ (nums xn).take (m + 1) = (h5 ++ (nums xn).take m) ++ [(nums xn).getD m 0] := by rw [take_succ' _ _ hkn, List.append_assoc]
          have hll : (h5 ++ (nums xn).take m).length ≤ 1000000 := by rw [List.length_append, List.length_take, HL5.out, HNL.out]; have := HLE.out; omega
          have hub : ((xn[m]'hmk).toNat : Int) < 256 := by have := (xn[m]'hmk).toNat_lt; omega
          have hlb : 0 ≤ ((xn[m]'hmk).toNat : Int) := by omega
          obtain ⟨c, hc⟩ : ∃ c : Int, ((xn[m]'hmk).toNat : Int) = c := ⟨_, rfl⟩
          rw [hc] at hub hlb hng
          rw [hng] at hts hcell
          obtain ⟨pre, hpre⟩ : ∃ pre, pre = h5 ++ (nums xn).take m := ⟨_, rfl⟩
          rw [← hpre] at hts hll ho
          have hwc : IntKind.i64.wrap c = c := by rw [IntKind.wrap_i64]; omega
          have HTS := Lib.hid hts; have HOW := Lib.hid ho; have HAT := Lib.hid ha; have HBE := Lib.hid hb
          clear hng hkn hts ho ha hb hpre
          have hbx0 : bb < wr.heap.size := HAT.out.lt
          have bbx := fun X => (Below.refl wr.heap.size wr).alloc (Nat.le_refl _) X
          have HBBX := Lib.hid bbx; clear bbx
          obtain ⟨_, _, hbc, -⟩ := HAT.out
          have hneX := ownsRow_ne HOW.out hbc (by decide)
          have HNE := Lib.hid hneX; clear hneX hbc
          go_wp2_with (at_builtin; refine app_list _ rfl (.tmp 46) (.tmp 49) rfl w1.heap.size Try.underlying26 info64 _ pre rfl (HOW.out.below (HBBX.out _)) _ 1 _ [c] rfl (rd_one _ _ _) (by omega) (Nat.le_trans HBE.out.size (HBBX.out _).size) ?_; intro v8 w8 o8 g8)
          have HAT8 := Lib.hid ((HAT.out.below (HBBX.out _) hbx0).grown g8 HNE.out)
          have HBE8 := Lib.hid (below_app HBE.out HBE.out.size g8 (fun k hk => (HOW.out.block k hk).1))
          have HO8 := Lib.hid o8; clear g8 o8 hcell
          go_wp2_with fail
          go_roundw
          case rel => exact ⟨m + 1, by omega, by go_num, by rw [HTS.out]; exact HO8.out, HAT8.out, HBE8.out⟩
          case measure => simp [intOf]; omega
        · have hmk : m = xn.size := by omega
          subst hmk
          have hcat : h5 ++ (nums xn).take xn.size = tabToN t (k + 1) := by
            rw [HSU.out, List.take_of_length_le (by rw [HNL.out]; exact Nat.le_refl _), HH5.out]
            unfold ndBytes
            rw [← List.append_assoc]
          rw [hcat] at ho
          have HO2 := Lib.hid ho; have HBE := Lib.hid hb; clear hcat ho hb ha
          go_wp2_with fail
          go_roundw
          case rel => exact ⟨k + 1, by omega, by go_num, HO2.out, HBE.out⟩
          case measure => simp [intOf]; omega
    · have hkn : k = n := by omega
      subst hkn
      have HO := Lib.hid hown; have HB := Lib.hid hb; clear hown hb
      go_wp2_with fail
      go_ret2
      exact ⟨_, rfl, by have h := HO.out.more HBA.out.size; rw [← HL.out, tabToN_all] at h; exact h, below_two HBA.out HB.out⟩
end Go.Proofs.Ytpedlofckbplmaa
