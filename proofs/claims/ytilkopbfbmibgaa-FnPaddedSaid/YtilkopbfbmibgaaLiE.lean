/-
  Chapter 18: DrawTransmissionSize, DrawPadLine, DrawBytesOfLine.
-/
import Derived.Test.YtilkopbfbmibgaaLiD
import Derived.Test.YtilkopbfbmibgaaDg
import Derived.Deep.Cut
namespace Go.Proofs.Ytilkopbfbmibgaa
open Go.RowKit

/-- A block laid behind w's end may have been written. -/
theorem below_thrown {w w1 w2 : World} {p : Nat} (h : Below w.heap.size w w1) (g : w1.grownBy w2 (some p)) (hp : w.heap.size ≤ p) : Below w.heap.size w w2 := h.grown g h.size (fun k hk => by cases hk; exact hp)
set_option maxHeartbeats 1000000 in
set_option maxRecDepth 100000 in
theorem drawTransmissionSize_any (ao : Option Addr) (n cap : Nat) (cs : List Int) (w : World) (hr : RdB w w.heap.size ao n cs) (hn : n ≤ 1048576) :
    Calls Try.prog 32 #[.slice ao n cap] w (DrawnNN w) := by
  have HR := Lib.hid hr; clear hr
  go_enter Try.func32, Try.ntmps32
  go_wp2_with fail
  refine (from_any _ _ _ cs _ HR.out hn).mono ?_
  rintro e w1 ⟨p, rfl, hlo, hs1, hb1⟩
  have HB := Lib.hid hb1
  have S1 := Lib.hid hs1
  clear hb1 hs1
  go_upto_region 2 with fail
  have hpd : p < (w1.drew).heap.size := (S1.out.below (Below.refl w1.heap.size w1).drew).lt
  obtain ⟨ks, hks⟩ : ∃ ks : Nat → Kd, ks = (fun k => match k with | 0 => .fix (.pointer (some ⟨p, 0, none⟩)) | 1 => .nat 100 | 2 => .tab 5 | 3 => .fix (.pointer (some ⟨p, 0, none⟩)) | 4 => .nat 5 | 5 => .adr 5 | 6 => .num | 7 => .fix (.pointer (some ⟨p, 0, none⟩)) | 8 => .num | 9 => .num | 10 => .num | _ => .num : Nat → Kd) := ⟨_, rfl⟩
  have k0 : ks 0 = .fix (.pointer (some ⟨p, 0, none⟩)) := by subst hks; rfl
  have k1 : ks 1 = .nat 100 := by subst hks; rfl
  have k2 : ks 2 = .tab 5 := by subst hks; rfl
  have k3 : ks 3 = .fix (.pointer (some ⟨p, 0, none⟩)) := by subst hks; rfl
  have k4 : ks 4 = .nat 5 := by subst hks; rfl
  have k5 : ks 5 = .adr 5 := by subst hks; rfl
  have k6 : ks 6 = .num := by subst hks; rfl
  have k7 : ks 7 = .fix (.pointer (some ⟨p, 0, none⟩)) := by subst hks; rfl
  have k8 : ks 8 = .num := by subst hks; rfl
  have k9 : ks 9 = .num := by subst hks; rfl
  have k10 : ks 10 = .num := by subst hks; rfl
  have HKS := Lib.hid hks; clear hks
  refine wp_region_any (by kernel_rfl) (wpAny_inv (fun l a w' => ∃ val : Nat → Value, a = ⟨#[.slice ao n cap, undef, val 9, val 10, .pointer (some ⟨p, 0, none⟩), .slice ao n cap, .pointer (some ⟨p, 0, none⟩), val 0, val 1, val 2, val 3, val 4, val 5, val 6, val 7, val 8], []⟩ ∧ RgI 11 73 p (w1.drew) ks l w' val) ?_ ?_ _ _ _ _ (by decide) ?_)
  · rintro l a w' ⟨val, rfl, h⟩ i hi K hK
    obtain ⟨hi1, ho, ha⟩ := ready_mem hi
    clear hi
    have hi2 : i < 11 := hi1
    clear hi1
    have hc : i = 0 ∨ i = 1 ∨ i = 2 ∨ i = 3 ∨ i = 4 ∨ i = 5 ∨ i = 6 ∨ i = 7 ∨ i = 8 ∨ i = 9 ∨ i = 10 := by omega
    rcases hc with rfl | rfl | rfl | rfl | rfl | rfl | rfl | rfl | rfl | rfl | rfl
    · clear ha
      refine wpOp_of rfl rfl ?_
      go_wp2_with fail
      first | exact hK _ _ ⟨putV val 0 (.pointer (some ⟨p, 0, none⟩)), rfl, h.same ho (by rw [k0]; exact rfl)⟩ | exact ⟨putV val 0 (.pointer (some ⟨p, 0, none⟩)), rfl, h.same ho (by rw [k0]; exact rfl)⟩
    · have d0 : fl l 0 = true := (by simp [Region.binds] at ha; first | exact ha | exact ha.1 | exact ha.2 | exact ha.1.1 | exact ha.1.2 | exact ha.2.1 | exact ha.2.2 | exact ha.2.2.1 | exact ha.1.1.1 | exact ha.1.1.2)
      clear ha
      refine wpOp_of rfl rfl ?_
      have e0 : val 0 = .pointer (some ⟨p, 0, none⟩) := by have q := h.ok 0 d0; rw [k0] at q; exact q
      rw [e0]
      go_wp2_with fail
      refine (next_any p 100 _ h.src (by omega)).mono ?_
      rintro e w'' ⟨z, rfl, hz0, hz1, -, hs, hg⟩
      obtain ⟨z, rfl⟩ := Int.eq_ofNat_of_zero_le hz0
      have hz : z < 100 := by have := hz1 (by omega); omega
      have h' := Lib.hid (h.drew (x := .int .i64 z) ho hpd hs hg (by rw [k1]; exact ⟨z, rfl, hz⟩))
      clear hs hg hz0 hz1
      go_wp2_with fail
      first | exact hK _ _ ⟨putV val 1 _, (by rw [← e0]; rfl), h'.out⟩ | exact ⟨putV val 1 _, (by rw [← e0]; rfl), h'.out⟩
    · have d1 : fl l 1 = true := (by simp [Region.binds] at ha; first | exact ha | exact ha.1 | exact ha.2 | exact ha.1.1 | exact ha.1.2 | exact ha.2.1 | exact ha.2.2 | exact ha.2.2.1 | exact ha.1.1.1 | exact ha.1.1.2)
      clear ha
      refine wpOp_of rfl rfl ?_
      obtain ⟨z1, e1, hz1⟩ : ∃ z : Nat, val 1 = .int .i64 z ∧ z < 100 := by have q := h.ok 1 d1; rw [k1] at q; exact q
      rw [e1]
      go_wp2_with fail
      first | exact hK _ _ ⟨putV val 2 _, (by rw [← e1]; rfl), h.made ho ((Below.refl _ _).alloc (Nat.le_refl _) _) (by rw [k2]; exact ⟨_, rfl, numT_alloc (cs := [(z1 : Int), 0, 1024, 1025, -1]) h.grown.size rfl⟩)⟩ | exact ⟨putV val 2 _, (by rw [← e1]; rfl), h.made ho ((Below.refl _ _).alloc (Nat.le_refl _) _) (by rw [k2]; exact ⟨_, rfl, numT_alloc (cs := [(z1 : Int), 0, 1024, 1025, -1]) h.grown.size rfl⟩)⟩
    · clear ha
      refine wpOp_of rfl rfl ?_
      go_wp2_with fail
      first | exact hK _ _ ⟨putV val 3 (.pointer (some ⟨p, 0, none⟩)), rfl, h.same ho (by rw [k3]; exact rfl)⟩ | exact ⟨putV val 3 (.pointer (some ⟨p, 0, none⟩)), rfl, h.same ho (by rw [k3]; exact rfl)⟩
    · have d3 : fl l 3 = true := (by simp [Region.binds] at ha; first | exact ha | exact ha.1 | exact ha.2 | exact ha.1.1 | exact ha.1.2 | exact ha.2.1 | exact ha.2.2 | exact ha.2.2.1 | exact ha.1.1.1 | exact ha.1.1.2)
      clear ha
      refine wpOp_of rfl rfl ?_
      have e3 : val 3 = .pointer (some ⟨p, 0, none⟩) := by have q := h.ok 3 d3; rw [k3] at q; exact q
      rw [e3]
      go_wp2_with fail
      refine (next_any p 5 _ h.src (by omega)).mono ?_
      rintro e w'' ⟨z, rfl, hz0, hz1, -, hs, hg⟩
      obtain ⟨z, rfl⟩ := Int.eq_ofNat_of_zero_le hz0
      have hz : z < 5 := by have := hz1 (by omega); omega
      have h' := Lib.hid (h.drew (x := .int .i64 z) ho hpd hs hg (by rw [k4]; exact ⟨z, rfl, hz⟩))
      clear hs hg hz0 hz1
      go_wp2_with fail
      first | exact hK _ _ ⟨putV val 4 _, (by rw [← e3]; rfl), h'.out⟩ | exact ⟨putV val 4 _, (by rw [← e3]; rfl), h'.out⟩
    · have d2 : fl l 2 = true := (by simp [Region.binds] at ha; first | exact ha | exact ha.1 | exact ha.2 | exact ha.1.1 | exact ha.1.2 | exact ha.2.1 | exact ha.2.2 | exact ha.2.2.1 | exact ha.1.1.1 | exact ha.1.1.2)
      have d4 : fl l 4 = true := (by simp [Region.binds] at ha; first | exact ha | exact ha.1 | exact ha.2 | exact ha.1.1 | exact ha.1.2 | exact ha.2.1 | exact ha.2.2 | exact ha.2.2.1 | exact ha.1.1.1 | exact ha.1.1.2)
      clear ha
      refine wpOp_of rfl rfl ?_
      obtain ⟨b2, e2, t2⟩ : ∃ b, val 2 = .slice (some ⟨b, 0, none⟩) 5 5 ∧ NumT (w1.drew).heap.size w' b 5 := by have q := h.ok 2 d2; rw [k2] at q; exact q
      obtain ⟨z4, e4, hz4⟩ : ∃ z : Nat, val 4 = .int .i64 z ∧ z < 5 := by have q := h.ok 4 d4; rw [k4] at q; exact q
      rw [e2, e4]
      have hzz : (z4 : Int) < 5 := by omega
      go_wp2_with fail
      first | exact hK _ _ ⟨putV val 5 (.pointer (some ⟨b2, z4, none⟩)), (by rw [← e2, ← e4]; first | rfl | simp [putV]), h.same ho (by rw [k5]; exact ⟨b2, z4, rfl, t2, hz4⟩)⟩ | exact ⟨putV val 5 (.pointer (some ⟨b2, z4, none⟩)), (by rw [← e2, ← e4]; first | rfl | simp [putV]), h.same ho (by rw [k5]; exact ⟨b2, z4, rfl, t2, hz4⟩)⟩
    · have d5 : fl l 5 = true := (by simp [Region.binds] at ha; first | exact ha | exact ha.1 | exact ha.2 | exact ha.1.1 | exact ha.1.2 | exact ha.2.1 | exact ha.2.2 | exact ha.2.2.1 | exact ha.1.1.1 | exact ha.1.1.2)
      clear ha
      refine wpOp_of rfl rfl ?_
      obtain ⟨b5, z5, e5, t5, hz5⟩ : ∃ b z, val 5 = .pointer (some ⟨b, z, none⟩) ∧ NumT (w1.drew).heap.size w' b 5 ∧ z < 5 := by have q := h.ok 5 d5; rw [k5] at q; exact q
      rw [e5]
      obtain ⟨x, hx⟩ := t5.2.2 z5 hz5
      go_wp2_with fail
      first | exact hK _ _ ⟨putV val 6 _, (by rw [← e5]; rfl), h.same ho (by rw [k6]; exact ⟨x, rfl⟩)⟩ | exact ⟨putV val 6 _, (by rw [← e5]; rfl), h.same ho (by rw [k6]; exact ⟨x, rfl⟩)⟩
    · clear ha
      refine wpOp_of rfl rfl ?_
      go_wp2_with fail
      first | exact hK _ _ ⟨putV val 7 (.pointer (some ⟨p, 0, none⟩)), rfl, h.same ho (by rw [k7]; exact rfl)⟩ | exact ⟨putV val 7 (.pointer (some ⟨p, 0, none⟩)), rfl, h.same ho (by rw [k7]; exact rfl)⟩
    · have d7 : fl l 7 = true := (by simp [Region.binds] at ha; first | exact ha | exact ha.1 | exact ha.2 | exact ha.1.1 | exact ha.1.2 | exact ha.2.1 | exact ha.2.2 | exact ha.2.2.1 | exact ha.1.1.1 | exact ha.1.1.2)
      clear ha
      refine wpOp_of rfl rfl ?_
      have e7 : val 7 = .pointer (some ⟨p, 0, none⟩) := by have q := h.ok 7 d7; rw [k7] at q; exact q
      rw [e7]
      go_wp2_with fail
      refine (drawPreamble_any p _ h.src).mono ?_
      rintro e w'' ⟨z, rfl, -, -, hs, hg⟩
      have h' := Lib.hid (h.drew (x := .int .i64 z) ho hpd hs hg (by rw [k8]; exact ⟨z, rfl⟩))
      clear hs hg
      go_wp2_with fail
      first | exact hK _ _ ⟨putV val 8 _, (by rw [← e7]; rfl), h'.out⟩ | exact ⟨putV val 8 _, (by rw [← e7]; rfl), h'.out⟩
    · have d6 : fl l 6 = true := (by simp [Region.binds] at ha; first | exact ha | exact ha.1 | exact ha.2 | exact ha.1.1 | exact ha.1.2 | exact ha.2.1 | exact ha.2.2 | exact ha.2.2.1 | exact ha.1.1.1 | exact ha.1.1.2)
      clear ha
      refine wpOp_of rfl rfl ?_
      obtain ⟨x6, e6⟩ : ∃ x : Int, val 6 = .int .i64 x := by have q := h.ok 6 d6; rw [k6] at q; exact q
      rw [e6]
      go_wp2_with fail
      first | exact hK _ _ ⟨putV val 9 _, (by rw [← e6]; rfl), h.same ho (by rw [k9]; exact ⟨_, e6⟩)⟩ | exact ⟨putV val 9 _, (by rw [← e6]; rfl), h.same ho (by rw [k9]; exact ⟨_, e6⟩)⟩
    · have d8 : fl l 8 = true := (by simp [Region.binds] at ha; first | exact ha | exact ha.1 | exact ha.2 | exact ha.1.1 | exact ha.1.2 | exact ha.2.1 | exact ha.2.2 | exact ha.2.2.1 | exact ha.1.1.1 | exact ha.1.1.2)
      clear ha
      refine wpOp_of rfl rfl ?_
      obtain ⟨x8, e8⟩ : ∃ x : Int, val 8 = .int .i64 x := by have q := h.ok 8 d8; rw [k8] at q; exact q
      rw [e8]
      go_wp2_with fail
      first | exact hK _ _ ⟨putV val 10 _, (by rw [← e8]; rfl), h.same ho (by rw [k10]; exact ⟨_, e8⟩)⟩ | exact ⟨putV val 10 _, (by rw [← e8]; rfl), h.same ho (by rw [k10]; exact ⟨_, e8⟩)⟩
  · rintro l a w' ⟨val, rfl, h⟩ hrd
    have hall := ready_nil (by kernel_rfl) h.size hrd
    obtain ⟨x, ex⟩ : ∃ x : Int, val 9 = .int .i64 x := by have q := h.ok 9 (hall 9 (by decide)); rw [k9] at q; exact q
    obtain ⟨y, ey⟩ : ∃ y : Int, val 10 = .int .i64 y := by have q := h.ok 10 (hall 10 (by decide)); rw [k10] at q; exact q
    rw [ex, ey]
    have HFIN := Lib.hid (below_thrown HB.out (grown_trans (grown_of_below (Below.refl w1.heap.size w1).drew) h.grown) hlo)
    clear h hall hrd
    go_wp2
    go_ret2
    exact ⟨x, y, rfl, HFIN.out⟩
  · exact ⟨fun k => if k = 9 ∨ k = 10 then .int .i64 0 else undef, rfl, RgI.start (S1.out.below (Below.refl w1.heap.size w1).drew) _ _⟩
/-- What a draw of a list and two numbers leaves. -/
def DrawnLNN (E : Nat) (w : World) (e : Ending) (w' : World) : Prop := ∃ v xs, ∃ a b : Int, e = .returned (.tuple #[v, .int .i64 a, .int .i64 b]) ∧ Own E w' w.heap.size v xs ∧ xs.length ≤ 9000 ∧ Below w.heap.size w w'
set_option maxHeartbeats 1000000 in
set_option maxRecDepth 100000 in
theorem drawPadLine_any (ao : Option Addr) (n cap : Nat) (cs : List Int) (w : World) (hr : RdB w w.heap.size ao n cs) (hn : n ≤ 1048576) :
    Calls Try.prog 30 #[.slice ao n cap] w (DrawnLNN 2 w) := by
  have HR := Lib.hid hr; clear hr
  go_enter Try.func30, Try.ntmps30
  go_wp2_with fail
  refine (from_any _ _ _ cs _ HR.out hn).mono ?_
  rintro e w1 ⟨p, rfl, hlo, hs1, hb1⟩
  have HB := Lib.hid hb1
  have S1 := Lib.hid hs1
  have hp1 := hs1.lt
  clear hb1 hs1
  go_wp2_with fail
  refine (l18Draw_any p _ S1.out).mono ?_
  rintro e w2 ⟨v, xs, rfl, o2, hxl, hs2, g2⟩
  obtain ⟨a2, c2, rfl, o2, -⟩ := o2.get
  have S2 := Lib.hid hs2
  have G2 := Lib.hid g2
  have O2 := Lib.hid o2
  clear hs2 g2 o2
  go_wp2_with fail
  refine (next_any _ _ _ S2.out (by omega)).mono ?_
  rintro e w3 ⟨y, rfl, -, -, -, hs3, g3⟩
  have S3 := Lib.hid hs3
  have G3 := Lib.hid g3
  clear hs3 g3
  by_cases h0 : y = 0
  rotate_left
  · have t0 : (y == 0) = false := by simp [h0]
    clear h0
    go_wp2_with fail
    refine (next_any _ _ _ S3.out (by omega)).mono ?_
    rintro e w4 ⟨a, rfl, -, -, -, hs4, g4⟩
    go_wp2_with fail
    refine (next_any _ _ _ hs4 (by omega)).mono ?_
    rintro e w5 ⟨b, rfl, -, -, -, hs5, g5⟩
    have HFIN := Lib.hid (below_thrown HB.out (grown_trans (grown_trans G2.out G3.out) (grown_trans g4 g5)) hlo)
    have HO := Lib.hid ((O2.out.src (grown_trans G3.out (grown_trans g4 g5)) hp1).more HB.out.size)
    clear hs4 hs5 g4 g5
    go_wp2
    exact bodyPost_ret (v := .tuple #[.slice a2 xs.length c2, .int .i64 a, .int .i64 b]) (by simp [results, Try.results30, go_sem]) rfl ⟨_, xs, a, b, rfl, HO.out, hxl, HFIN.out⟩
  subst h0
  go_upto_region 4 with fail
  have hpd : p < (w3.drew).heap.size := (S3.out.below (Below.refl w3.heap.size w3).drew).lt
  obtain ⟨ks, hks⟩ : ∃ ks : Nat → Kd, ks = (fun k => match k with | 0 => .fix (.slice a2 xs.length c2) | 1 => .fix (.slice a2 xs.length c2) | 2 => .fix (.int .i64 (xs.length : Int)) | 3 => .num | 4 => .tab 4 | 5 => .fix (.pointer (some ⟨p, 0, none⟩)) | 6 => .nat 4 | 7 => .adr 4 | 8 => .num | 9 => .fix (.pointer (some ⟨p, 0, none⟩)) | 10 => .nat 2 | 11 => .fix (.slice a2 xs.length c2) | 12 => .num | 13 => .num | _ => .num : Nat → Kd) := ⟨_, rfl⟩
  have k0 : ks 0 = .fix (.slice a2 xs.length c2) := by subst hks; rfl
  have k1 : ks 1 = .fix (.slice a2 xs.length c2) := by subst hks; rfl
  have k2 : ks 2 = .fix (.int .i64 (xs.length : Int)) := by subst hks; rfl
  have k3 : ks 3 = .num := by subst hks; rfl
  have k4 : ks 4 = .tab 4 := by subst hks; rfl
  have k5 : ks 5 = .fix (.pointer (some ⟨p, 0, none⟩)) := by subst hks; rfl
  have k6 : ks 6 = .nat 4 := by subst hks; rfl
  have k7 : ks 7 = .adr 4 := by subst hks; rfl
  have k8 : ks 8 = .num := by subst hks; rfl
  have k9 : ks 9 = .fix (.pointer (some ⟨p, 0, none⟩)) := by subst hks; rfl
  have k10 : ks 10 = .nat 2 := by subst hks; rfl
  have k11 : ks 11 = .fix (.slice a2 xs.length c2) := by subst hks; rfl
  have k12 : ks 12 = .num := by subst hks; rfl
  have k13 : ks 13 = .num := by subst hks; rfl
  have HKS := Lib.hid hks; clear hks
  refine wp_region_any (by kernel_rfl) (wpAny_inv (fun l a w' => ∃ val : Nat → Value, a = ⟨#[.slice ao n cap, undef, val 11, val 12, val 13, .pointer (some ⟨p, 0, none⟩), .slice a2 xs.length c2, .slice ao n cap, .pointer (some ⟨p, 0, none⟩), .pointer (some ⟨p, 0, none⟩), .slice a2 xs.length c2, .pointer (some ⟨p, 0, none⟩), .int .i64 0, .bool true, val 0, val 1, val 2, val 3, val 4, val 5, val 6, val 7, val 8, val 9, val 10, undef, undef, undef, undef, undef], []⟩ ∧ RgI 14 73 p (w3.drew) ks l w' val) ?_ ?_ _ _ _ _ (by decide) ?_)
  · rintro l a w' ⟨val, rfl, h⟩ i hi K hK
    obtain ⟨hi1, ho, ha⟩ := ready_mem hi
    clear hi
    have hi2 : i < 14 := hi1
    clear hi1
    have hc : i = 0 ∨ i = 1 ∨ i = 2 ∨ i = 3 ∨ i = 4 ∨ i = 5 ∨ i = 6 ∨ i = 7 ∨ i = 8 ∨ i = 9 ∨ i = 10 ∨ i = 11 ∨ i = 12 ∨ i = 13 := by omega
    rcases hc with rfl | rfl | rfl | rfl | rfl | rfl | rfl | rfl | rfl | rfl | rfl | rfl | rfl | rfl
    · clear ha
      refine wpOp_of rfl rfl ?_
      go_wp2_with fail
      first | exact hK _ _ ⟨putV val 0 (.slice a2 xs.length c2), rfl, h.same ho (by rw [k0]; exact rfl)⟩ | exact ⟨putV val 0 (.slice a2 xs.length c2), rfl, h.same ho (by rw [k0]; exact rfl)⟩
    · clear ha
      refine wpOp_of rfl rfl ?_
      go_wp2_with fail
      first | exact hK _ _ ⟨putV val 1 (.slice a2 xs.length c2), rfl, h.same ho (by rw [k1]; exact rfl)⟩ | exact ⟨putV val 1 (.slice a2 xs.length c2), rfl, h.same ho (by rw [k1]; exact rfl)⟩
    · have d1 : fl l 1 = true := (by simp [Region.binds] at ha; first | exact ha | exact ha.1 | exact ha.2 | exact ha.1.1 | exact ha.1.2 | exact ha.2.1 | exact ha.2.2 | exact ha.2.2.1 | exact ha.1.1.1 | exact ha.1.1.2)
      clear ha
      refine wpOp_of rfl rfl ?_
      have e1 : val 1 = .slice a2 xs.length c2 := by have q := h.ok 1 d1; rw [k1] at q; exact q
      rw [e1]
      go_wp2_with fail
      first | exact hK _ _ ⟨putV val 2 (.int .i64 (xs.length : Int)), (by rw [← e1]; rfl), h.same ho (by rw [k2]; exact rfl)⟩ | exact ⟨putV val 2 (.int .i64 (xs.length : Int)), (by rw [← e1]; rfl), h.same ho (by rw [k2]; exact rfl)⟩
    · have d2 : fl l 2 = true := (by simp [Region.binds] at ha; first | exact ha | exact ha.1 | exact ha.2 | exact ha.1.1 | exact ha.1.2 | exact ha.2.1 | exact ha.2.2 | exact ha.2.2.1 | exact ha.1.1.1 | exact ha.1.1.2)
      clear ha
      refine wpOp_of rfl rfl ?_
      have e2 : val 2 = .int .i64 (xs.length : Int) := by have q := h.ok 2 d2; rw [k2] at q; exact q
      rw [e2]
      go_wp2_with fail
      first | exact hK _ _ ⟨putV val 3 _, (by rw [← e2]; rfl), h.same ho (by rw [k3]; exact ⟨_, rfl⟩)⟩ | exact ⟨putV val 3 _, (by rw [← e2]; rfl), h.same ho (by rw [k3]; exact ⟨_, rfl⟩)⟩
    · have d3 : fl l 3 = true := (by simp [Region.binds] at ha; first | exact ha | exact ha.1 | exact ha.2 | exact ha.1.1 | exact ha.1.2 | exact ha.2.1 | exact ha.2.2 | exact ha.2.2.1 | exact ha.1.1.1 | exact ha.1.1.2)
      clear ha
      refine wpOp_of rfl rfl ?_
      obtain ⟨x3, e3⟩ : ∃ x : Int, val 3 = .int .i64 x := by have q := h.ok 3 d3; rw [k3] at q; exact q
      rw [e3]
      go_wp2_with fail
      first | exact hK _ _ ⟨putV val 4 _, (by rw [← e3]; rfl), h.made ho ((Below.refl _ _).alloc (Nat.le_refl _) _) (by rw [k4]; exact ⟨_, rfl, numT_alloc (cs := [-1, 8192, 8193, x3]) h.grown.size rfl⟩)⟩ | exact ⟨putV val 4 _, (by rw [← e3]; rfl), h.made ho ((Below.refl _ _).alloc (Nat.le_refl _) _) (by rw [k4]; exact ⟨_, rfl, numT_alloc (cs := [-1, 8192, 8193, x3]) h.grown.size rfl⟩)⟩
    · clear ha
      refine wpOp_of rfl rfl ?_
      go_wp2_with fail
      first | exact hK _ _ ⟨putV val 5 (.pointer (some ⟨p, 0, none⟩)), rfl, h.same ho (by rw [k5]; exact rfl)⟩ | exact ⟨putV val 5 (.pointer (some ⟨p, 0, none⟩)), rfl, h.same ho (by rw [k5]; exact rfl)⟩
    · have d5 : fl l 5 = true := (by simp [Region.binds] at ha; first | exact ha | exact ha.1 | exact ha.2 | exact ha.1.1 | exact ha.1.2 | exact ha.2.1 | exact ha.2.2 | exact ha.2.2.1 | exact ha.1.1.1 | exact ha.1.1.2)
      clear ha
      refine wpOp_of rfl rfl ?_
      have e5 : val 5 = .pointer (some ⟨p, 0, none⟩) := by have q := h.ok 5 d5; rw [k5] at q; exact q
      rw [e5]
      go_wp2_with fail
      refine (next_any p 4 _ h.src (by omega)).mono ?_
      rintro e w'' ⟨z, rfl, hz0, hz1, -, hs, hg⟩
      obtain ⟨z, rfl⟩ := Int.eq_ofNat_of_zero_le hz0
      have hz : z < 4 := by have := hz1 (by omega); omega
      have h' := Lib.hid (h.drew (x := .int .i64 z) ho hpd hs hg (by rw [k6]; exact ⟨z, rfl, hz⟩))
      clear hs hg hz0 hz1
      go_wp2_with fail
      first | exact hK _ _ ⟨putV val 6 _, (by rw [← e5]; rfl), h'.out⟩ | exact ⟨putV val 6 _, (by rw [← e5]; rfl), h'.out⟩
    · have d4 : fl l 4 = true := (by simp [Region.binds] at ha; first | exact ha | exact ha.1 | exact ha.2 | exact ha.1.1 | exact ha.1.2 | exact ha.2.1 | exact ha.2.2 | exact ha.2.2.1 | exact ha.1.1.1 | exact ha.1.1.2)
      have d6 : fl l 6 = true := (by simp [Region.binds] at ha; first | exact ha | exact ha.1 | exact ha.2 | exact ha.1.1 | exact ha.1.2 | exact ha.2.1 | exact ha.2.2 | exact ha.2.2.1 | exact ha.1.1.1 | exact ha.1.1.2)
      clear ha
      refine wpOp_of rfl rfl ?_
      obtain ⟨b4, e4, t4⟩ : ∃ b, val 4 = .slice (some ⟨b, 0, none⟩) 4 4 ∧ NumT (w3.drew).heap.size w' b 4 := by have q := h.ok 4 d4; rw [k4] at q; exact q
      obtain ⟨z6, e6, hz6⟩ : ∃ z : Nat, val 6 = .int .i64 z ∧ z < 4 := by have q := h.ok 6 d6; rw [k6] at q; exact q
      rw [e4, e6]
      have hzz : (z6 : Int) < 4 := by omega
      go_wp2_with fail
      first | exact hK _ _ ⟨putV val 7 (.pointer (some ⟨b4, z6, none⟩)), (by rw [← e4, ← e6]; first | rfl | simp [putV]), h.same ho (by rw [k7]; exact ⟨b4, z6, rfl, t4, hz6⟩)⟩ | exact ⟨putV val 7 (.pointer (some ⟨b4, z6, none⟩)), (by rw [← e4, ← e6]; first | rfl | simp [putV]), h.same ho (by rw [k7]; exact ⟨b4, z6, rfl, t4, hz6⟩)⟩
    · have d7 : fl l 7 = true := (by simp [Region.binds] at ha; first | exact ha | exact ha.1 | exact ha.2 | exact ha.1.1 | exact ha.1.2 | exact ha.2.1 | exact ha.2.2 | exact ha.2.2.1 | exact ha.1.1.1 | exact ha.1.1.2)
      clear ha
      refine wpOp_of rfl rfl ?_
      obtain ⟨b7, z7, e7, t7, hz7⟩ : ∃ b z, val 7 = .pointer (some ⟨b, z, none⟩) ∧ NumT (w3.drew).heap.size w' b 4 ∧ z < 4 := by have q := h.ok 7 d7; rw [k7] at q; exact q
      rw [e7]
      obtain ⟨x, hx⟩ := t7.2.2 z7 hz7
      go_wp2_with fail
      first | exact hK _ _ ⟨putV val 8 _, (by rw [← e7]; rfl), h.same ho (by rw [k8]; exact ⟨x, rfl⟩)⟩ | exact ⟨putV val 8 _, (by rw [← e7]; rfl), h.same ho (by rw [k8]; exact ⟨x, rfl⟩)⟩
    · clear ha
      refine wpOp_of rfl rfl ?_
      go_wp2_with fail
      first | exact hK _ _ ⟨putV val 9 (.pointer (some ⟨p, 0, none⟩)), rfl, h.same ho (by rw [k9]; exact rfl)⟩ | exact ⟨putV val 9 (.pointer (some ⟨p, 0, none⟩)), rfl, h.same ho (by rw [k9]; exact rfl)⟩
    · have d9 : fl l 9 = true := (by simp [Region.binds] at ha; first | exact ha | exact ha.1 | exact ha.2 | exact ha.1.1 | exact ha.1.2 | exact ha.2.1 | exact ha.2.2 | exact ha.2.2.1 | exact ha.1.1.1 | exact ha.1.1.2)
      clear ha
      refine wpOp_of rfl rfl ?_
      have e9 : val 9 = .pointer (some ⟨p, 0, none⟩) := by have q := h.ok 9 d9; rw [k9] at q; exact q
      rw [e9]
      go_wp2_with fail
      refine (next_any p 2 _ h.src (by omega)).mono ?_
      rintro e w'' ⟨z, rfl, hz0, hz1, -, hs, hg⟩
      obtain ⟨z, rfl⟩ := Int.eq_ofNat_of_zero_le hz0
      have hz : z < 2 := by have := hz1 (by omega); omega
      have h' := Lib.hid (h.drew (x := .int .i64 z) ho hpd hs hg (by rw [k10]; exact ⟨z, rfl, hz⟩))
      clear hs hg hz0 hz1
      go_wp2_with fail
      first | exact hK _ _ ⟨putV val 10 _, (by rw [← e9]; rfl), h'.out⟩ | exact ⟨putV val 10 _, (by rw [← e9]; rfl), h'.out⟩
    · have d0 : fl l 0 = true := (by simp [Region.binds] at ha; first | exact ha | exact ha.1 | exact ha.2 | exact ha.1.1 | exact ha.1.2 | exact ha.2.1 | exact ha.2.2 | exact ha.2.2.1 | exact ha.1.1.1 | exact ha.1.1.2)
      clear ha
      refine wpOp_of rfl rfl ?_
      have e0 : val 0 = .slice a2 xs.length c2 := by have q := h.ok 0 d0; rw [k0] at q; exact q
      rw [e0]
      go_wp2_with fail
      first | exact hK _ _ ⟨putV val 11 _, (by rw [← e0]; rfl), h.same ho (by rw [k11]; exact e0)⟩ | exact ⟨putV val 11 _, (by rw [← e0]; rfl), h.same ho (by rw [k11]; exact e0)⟩
    · have d8 : fl l 8 = true := (by simp [Region.binds] at ha; first | exact ha | exact ha.1 | exact ha.2 | exact ha.1.1 | exact ha.1.2 | exact ha.2.1 | exact ha.2.2 | exact ha.2.2.1 | exact ha.1.1.1 | exact ha.1.1.2)
      clear ha
      refine wpOp_of rfl rfl ?_
      obtain ⟨x8, e8⟩ : ∃ x : Int, val 8 = .int .i64 x := by have q := h.ok 8 d8; rw [k8] at q; exact q
      rw [e8]
      go_wp2_with fail
      first | exact hK _ _ ⟨putV val 12 _, (by rw [← e8]; rfl), h.same ho (by rw [k12]; exact ⟨_, e8⟩)⟩ | exact ⟨putV val 12 _, (by rw [← e8]; rfl), h.same ho (by rw [k12]; exact ⟨_, e8⟩)⟩
    · have d10 : fl l 10 = true := (by simp [Region.binds] at ha; first | exact ha | exact ha.1 | exact ha.2 | exact ha.1.1 | exact ha.1.2 | exact ha.2.1 | exact ha.2.2 | exact ha.2.2.1 | exact ha.1.1.1 | exact ha.1.1.2)
      clear ha
      refine wpOp_of rfl rfl ?_
      obtain ⟨z10, e10, hz10⟩ : ∃ z : Nat, val 10 = .int .i64 z ∧ z < 2 := by have q := h.ok 10 d10; rw [k10] at q; exact q
      rw [e10]
      go_wp2_with fail
      first | exact hK _ _ ⟨putV val 13 _, (by rw [← e10]; rfl), h.same ho (by rw [k13]; exact ⟨_, e10⟩)⟩ | exact ⟨putV val 13 _, (by rw [← e10]; rfl), h.same ho (by rw [k13]; exact ⟨_, e10⟩)⟩
  · rintro l a w' ⟨val, rfl, h⟩ hrd
    have hall := ready_nil (by kernel_rfl) h.size hrd
    have es : val 11 = .slice a2 xs.length c2 := by have q := h.ok 11 (hall 11 (by decide)); rw [k11] at q; exact q
    obtain ⟨x, ex⟩ : ∃ x : Int, val 12 = .int .i64 x := by have q := h.ok 12 (hall 12 (by decide)); rw [k12] at q; exact q
    obtain ⟨y, ey⟩ : ∃ y : Int, val 13 = .int .i64 y := by have q := h.ok 13 (hall 13 (by decide)); rw [k13] at q; exact q
    rw [es, ex, ey]
    have G4 := grown_trans (grown_of_below (Below.refl w3.heap.size w3).drew) h.grown
    have HFIN := Lib.hid (below_thrown HB.out (grown_trans (grown_trans G2.out G3.out) G4) hlo)
    have HO := Lib.hid ((O2.out.src (grown_trans G3.out G4) hp1).more HB.out.size)
    clear h hall hrd G4
    go_wp2
    exact bodyPost_ret (v := .tuple #[.slice a2 xs.length c2, .int .i64 x, .int .i64 y]) (by simp [results, Try.results30, go_sem]) rfl ⟨_, xs, x, y, rfl, HO.out, hxl, HFIN.out⟩
  · exact ⟨fun k => if k = 11 then .slice none 0 0 else if k = 12 ∨ k = 13 then .int .i64 0 else undef, rfl, RgI.start (S3.out.below (Below.refl w3.heap.size w3).drew) _ _⟩
theorem drawBytesOfLine_any (ao : Option Addr) (n cap : Nat) (cs : List Int) (w : World) (hr : RdB w w.heap.size ao n cs) (hn : n ≤ 1048576) :
    Calls Try.prog 25 #[.slice ao n cap] w (Drawn1 2 w) := by
  have HR := Lib.hid hr; clear hr
  go_enter Try.func25, Try.ntmps25
  go_wp2_with fail
  refine (from_any _ _ _ cs _ HR.out hn).mono ?_
  rintro e w1 ⟨p, rfl, hlo, hs1, hb1⟩
  go_wp2_with fail
  refine (l18Draw_any p _ hs1).mono ?_
  rintro e w2 ⟨v, xs, rfl, o2, hxl, hs2, g2⟩
  have HFIN := Lib.hid (below_thrown hb1 g2 hlo)
  have HO := Lib.hid (o2.more hb1.size)
  go_wp2
  go_ret
  exact ⟨_, xs, rfl, HO.out, hxl, HFIN.out⟩
end Go.Proofs.Ytilkopbfbmibgaa
