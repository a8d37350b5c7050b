/-
  Contracts of the program's, the model's and the laws' functions, and plain mathematics, on which a proof of this claim stands (part T).
-/

import Derived.Test.YthihjhidjnadaaaGreatP27I
import Derived.Test.YthihjhidjnadaaaGreatP27S
import Derived.Test.YthihjhidjnadaaaGreatP27N
import Derived.Test.YthihjhidjnadaaaGreatP27M
namespace Go.Proofs.YthihjhidjnadaaaGreat
section
open Go.RowKit
theorem placeS_any {t : List Sl} (m r s : Int) : (t.any (sameSl m r s) = true ∧ 0 ≤ placeS t m r s) ∨ (t.any (sameSl m r s) = false ∧ placeS t m r s = -1) := by
  rcases placeS_case t m r s with ⟨h1, h2⟩ | ⟨k, hk, h1, h2⟩
  · refine .inr ⟨?_, h1⟩
    rw [Bool.eq_false_iff]
    intro hc
    obtain ⟨x, hx, e⟩ := List.any_eq_true.1 hc
    have := List.find?_eq_none.1 h2 x hx
    exact this e
  · refine .inl ⟨List.any_eq_true.2 ⟨slOf t k, slOf_mem hk, List.find?_some h2⟩, by omega⟩
theorem mode_cell {w W : World} {v : Mv} {k : Nat} (hk : k < v.cs.length) (hW : RdMe w v) (hb : Below w.heap.size w W) : ∃ b off, v.mo = some ⟨b, off, none⟩ ∧ W.cell? ⟨b, off + k * 3, none⟩ = some (.int .i64 (mcOf v.cs k).md.rounds) ∧ W.cell? ⟨b, off + k * 3 + 1, none⟩ = some (.int .i64 (mcOf v.cs k).md.slots) := by
  obtain ⟨b, off, e, hg, hx, -⟩ := hW.rm.at hk
  have hx := hx.below hb hg
  exact ⟨b, off, e, hx.c0, hx.c1⟩
theorem rule5_none {m : Me} (h : isSls m.slots = true) (hm : isModes m.modes = true) {k r s : Nat} (hk : k < m.modes.length) (hr : r < (mdOf m.modes k).rounds.toNat) (hs : s < (mdOf m.modes k).slots.toNat) (hf : m.slots.any (sameSl (k : Int) (r : Int) (s : Int)) = false) : rule5 m = false := by
  rw [Bool.eq_false_iff]
  intro hc
  have := ((rule5_spec h hm).1 hc).1 k r s hk hr hs
  rw [hf] at this
  cases this
theorem rule5_end {m : Me} (h : isSls m.slots = true) (hm : isModes m.modes = true) (ha : ∀ k r s : Nat, k < m.modes.length → r < (mdOf m.modes k).rounds.toNat → s < (mdOf m.modes k).slots.toNat → m.slots.any (sameSl (k : Int) (r : Int) (s : Int)) = true) : rule5 m = decide (slotCount m.modes m.modes.length = m.slots.length) := by
  rw [Bool.eq_iff_iff, rule5_spec h hm, decide_eq_true_eq]
  exact ⟨fun g => g.2, fun g => ⟨ha, g⟩⟩
set_option maxRecDepth 100000 in
set_option maxHeartbeats 4000000 in
theorem complete_any (v : Mv) (w : World) (hr : RdMe w v) (h3 : isModes (mds v.cs) = true) (h4 : isSls v.e = true) :
    Calls Tryz.prog 198 #[mvVal v] w fun e w' => e = .returned (.bool (rule5 v.me)) ∧ Below w.heap.size w w' := by
  have HX := Lib.hid (Bx.start (T := 28) hr)
  have hml : v.me.modes.length = v.cs.length := mds_len v.cs
  have HN := Lib.hid (show v.cs.length ≤ 16 ∧ v.e.length ≤ 120 from ⟨by have h1 := (isModes_iff.1 h3).1.2; have e : (mds v.cs).length = v.cs.length := mds_len v.cs; omega, (isSls_iff.1 h4).1⟩)
  have HBD := Lib.hid (fun k (hk : k < v.cs.length) => (by have h1 := md_bounds h3 (show k < (mds v.cs).length by rw [mds_len]; exact hk); rw [mdOf_mds] at h1; exact h1 : 1 ≤ (mcOf v.cs k).md.rounds ∧ (mcOf v.cs k).md.rounds ≤ 8 ∧ 1 ≤ (mcOf v.cs k).md.slots ∧ (mcOf v.cs k).md.slots ≤ 16))
  have HSC := Lib.hid (fun k (hk : k ≤ v.cs.length) => slotCount_le h3 k (show k ≤ (mds v.cs).length by rw [mds_len]; exact hk))
  have HSS := Lib.hid (fun k => (show slotCount (mds v.cs) (k + 1) = slotCount (mds v.cs) k + (mcOf v.cs k).md.rounds.toNat * (mcOf v.cs k).md.slots.toNat from by rw [← mdOf_mds]; rfl))
  have HNO := Lib.hid (fun k r s (hk : k < v.cs.length) (hrr : r < (mcOf v.cs k).md.rounds.toNat) (hs : s < (mcOf v.cs k).md.slots.toNat) (hf : v.e.any (sameSl (k : Int) (r : Int) (s : Int)) = false) => rule5_none (m := v.me) h4 h3 (by omega) (by show r < (mdOf (mds v.cs) k).rounds.toNat; rw [mdOf_mds]; exact hrr) (by show s < (mdOf (mds v.cs) k).slots.toNat; rw [mdOf_mds]; exact hs) hf)
  have HYES := Lib.hid (fun (ha : ∀ k r s : Nat, k < v.cs.length → r < (mcOf v.cs k).md.rounds.toNat → s < (mcOf v.cs k).md.slots.toNat → v.e.any (sameSl (k : Int) (r : Int) (s : Int)) = true) => (by
    have h1 := rule5_end (m := v.me) h4 h3 (fun k r s hk hrr hs => ha k r s (by omega) (by have : r < (mdOf (mds v.cs) k).rounds.toNat := hrr; rwa [mdOf_mds] at this) (by have : s < (mdOf (mds v.cs) k).slots.toNat := hs; rwa [mdOf_mds] at this))
    rw [hml] at h1
    exact h1 : rule5 v.me = decide (slotCount (mds v.cs) v.cs.length = v.e.length)))
  obtain ⟨R5, hR5⟩ : ∃ R, R = rule5 v.me := ⟨_, rfl⟩
  rw [← hR5] at HNO HYES ⊢
  have HRD := Lib.hid hr
  clear hR5 hr h3 h4 hml
  unfold mvVal
  go_enter Tryz.func198, Tryz.ntmps198
  go_upto_region 1 with fail
  generalize w.alloc (.cells #[.int .i64 v.id, .slice v.no v.n.length v.nc, .slice v.mo v.cs.length v.mc, .slice v.eo v.e.length v.ec] 28) = w1 at HX ⊢
  have HF := Lib.hid (fun (k r s : Int) => l12Find_any v.eo v.e.length v.ec v.e k r s w1 HX.out.rd.re HX.out.rd.el)
  obtain ⟨z0, z1, z2, z3⟩ := HX.out.at_.all
  go_wp2_with fail
  go_loopw [3, 4] (fun n i wr => ∃ k z : Nat, k ≤ v.cs.length ∧ n = .int .i64 (z : Nat) ∧ i = .int .i64 k ∧ w1 = wr ∧ Hid (z = slotCount (mds v.cs) k) ∧ Hid (∀ j r s : Nat, j < k → r < (mcOf v.cs j).md.rounds.toNat → s < (mcOf v.cs j).md.slots.toNat → v.e.any (sameSl (j : Int) (r : Int) (s : Int)) = true)) (fun _ i _ => v.cs.length - (intOf i).toNat)
  case atStart => exact ⟨0, 0, Nat.zero_le _, rfl, rfl, rfl, rfl, fun j r s h => absurd h (by omega)⟩
  case round =>
    obtain ⟨k, z, hk, rfl, rfl, rfl, HZ, HALL⟩ := hrel
    by_cases hlt : k < v.cs.length
    · have hk20 : k ≤ 1048576 := by have := HN.out.1; omega
      have hbd := HBD.out k hlt
      have hsc := HSC.out k hk
      have hss := HSS.out k
      rw [← HZ.out] at hsc hss
      obtain ⟨b, off, e0, c0, c1⟩ := mode_cell hlt HX.out.rd (Below.refl _ _)
      have HNK := Lib.hid (fun r s hrr hs hf => HNO.out k r s hlt hrr hs hf)
      have HYK := Lib.hid (fun (g : ∀ r s : Nat, r < (mcOf v.cs k).md.rounds.toNat → s < (mcOf v.cs k).md.slots.toNat → v.e.any (sameSl (k : Int) (r : Int) (s : Int)) = true) j r s (hj : j < k + 1) => (by
        rcases Nat.lt_or_ge j k with hl | hl
        · exact HALL.out j r s hl
        · rw [show j = k from by omega]; exact g r s : r < (mcOf v.cs j).md.rounds.toNat → s < (mcOf v.cs j).md.slots.toNat → v.e.any (sameSl (j : Int) (r : Int) (s : Int)) = true))
      generalize hxe : mcOf v.cs k = x at hbd hss c0 c1 HNK
      rw [hxe] at HYK
      obtain ⟨R, hR⟩ : ∃ R : Nat, x.md.rounds = (R : Int) := ⟨x.md.rounds.toNat, by omega⟩
      obtain ⟨S, hS⟩ : ∃ S : Nat, x.md.slots = (S : Int) := ⟨x.md.slots.toNat, by omega⟩
      rw [hR] at c0 hbd hss HNK HYK
      rw [hS] at c1 hbd hss HNK HYK
      simp only [Int.toNat_natCast] at hss HNK HYK
      have hz20 : z ≤ 2048 := by have := HN.out.1; omega
      have hR8 : R ≤ 8 := by omega
      have hS16 : S ≤ 16 := by omega
      have HSS2 := Lib.hid hss
      rw [e0] at z2 ⊢
      have HE0 := Lib.hid e0
      clear hbd hsc hss hR hS hxe HALL e0 HZ
      go_wp2_with fail
      go_loopw [3, 5] (fun n i wr => ∃ r y : Nat, r ≤ R ∧ n = .int .i64 (y : Nat) ∧ i = .int .i64 r ∧ w1 = wr ∧ Hid (y = z + r * S) ∧ Hid (∀ q s : Nat, q < r → s < S → v.e.any (sameSl (k : Int) (q : Int) (s : Int)) = true)) (fun _ i _ => R - (intOf i).toNat)
      case atStart => exact ⟨0, z, Nat.zero_le _, rfl, rfl, rfl, (by simp : z = z + 0 * S), fun q s h => absurd h (by omega)⟩
      case round =>
        obtain ⟨r, y, hrk, rfl, rfl, rfl, HY, HA2⟩ := hrel
        by_cases hlr : r < R
        · have hrs : r * S ≤ 8 * 16 := Nat.mul_le_mul (by omega) hS16
          have hy20 : y ≤ 2200 := by have := HY.out; omega
          have HNX := Lib.hid (show y + S = z + (r + 1) * S from by rw [HY.out, Nat.succ_mul]; omega)
          have HY2 := Lib.hid (fun (g : ∀ s : Nat, s < S → v.e.any (sameSl (k : Int) (r : Int) (s : Int)) = true) q s (hj : q < r + 1) => (by
            rcases Nat.lt_or_ge q r with hl | hl
            · exact HA2.out q s hl
            · rw [show q = r from by omega]; exact g s : s < S → v.e.any (sameSl (k : Int) (q : Int) (s : Int)) = true))
          clear hrs HA2 HY
          go_wp2_with fail
          go_loopw [3, 6] (fun n i wr => ∃ s x : Nat, s ≤ S ∧ n = .int .i64 (x : Nat) ∧ i = .int .i64 s ∧ w1 = wr ∧ Hid (x = y + s) ∧ Hid (∀ q : Nat, q < s → v.e.any (sameSl (k : Int) (r : Int) (q : Int)) = true)) (fun _ i _ => S - (intOf i).toNat)
          case atStart => exact ⟨0, y, Nat.zero_le _, rfl, rfl, rfl, (rfl : y = y + 0), fun q h => absurd h (by omega)⟩
          case round =>
            obtain ⟨s, u, hsk, rfl, rfl, rfl, HU, HA3⟩ := hrel
            by_cases hls : s < S
            · have hu20 : u ≤ 2400 := by have := HU.out; omega
              have HFK := Lib.hid (HF.out (k : Int) (r : Int) (s : Int))
              rcases placeS_any (t := v.e) (k : Int) (r : Int) (s : Int) with ⟨ha, hp⟩ | ⟨ha, hp⟩
              · have HY3 := Lib.hid (fun q (hj : q < s + 1) => (by
                  rcases Nat.lt_or_ge q s with hl | hl
                  · exact HA3.out q hl
                  · rw [show q = s from by omega]; exact ha : v.e.any (sameSl (k : Int) (r : Int) (q : Int)) = true))
                have HU2 := Lib.hid (show u + 1 = y + (s + 1) from by rw [HU.out]; omega)
                generalize placeS v.e (k : Int) (r : Int) (s : Int) = p at HFK hp
                have hp2 : ¬ p < 0 := by omega
                clear ha hp HA3 HU
                go_wp2_with (go_at_call 136; (with_reducible refine HFK.out.mono ?_); rintro e w3 ⟨rfl, rfl⟩)
                go_roundw
                case rel => exact ⟨s + 1, u + 1, by omega, by go_num, by go_num, (by first | rfl | trivial), HU2, HY3⟩
                case measure => simp [intOf]; omega
              · rw [hp] at HFK
                have HFF := Lib.hid (HNK.out r s hlr hls ha)
                clear ha hp HA3 HU
                go_wp2_with (go_at_call 136; (with_reducible refine HFK.out.mono ?_); rintro e w3 ⟨rfl, rfl⟩)
                go_ret
                rw [HFF.out]
                exact ⟨rfl, HX.out.below⟩
            · have hsn : s = S := by omega
              subst hsn
              have HN3 := Lib.hid (HY2.out HA3.out)
              have HU3 := Lib.hid (show u = z + (r + 1) * s from by rw [HU.out]; exact HNX.out)
              clear HA3 HU
              go_wp2_with fail
              go_roundw
              case rel => exact ⟨r + 1, u, by omega, rfl, by go_num, (by first | rfl | trivial), HU3, HN3⟩
              case measure => simp [intOf]; omega
        · have hrn : r = R := by omega
          subst hrn
          have HN3 := Lib.hid (HYK.out (fun q s => HA2.out q s))
          have HU3 := Lib.hid (show y = slotCount (mds v.cs) (k + 1) from by rw [HY.out]; exact HSS2.out.symm)
          clear HA2 HY
          go_wp2_with fail
          go_roundw
          case rel => exact ⟨k + 1, y, by omega, rfl, by go_num, (by first | rfl | trivial), HU3, fun j q s hj => HN3.out j q s hj⟩
          case measure => simp [intOf]; omega
    · have hkn : k = v.cs.length := by omega
      have HR := Lib.hid (show R5 = decide (z = v.e.length) from by rw [HZ.out, hkn]; exact HYES.out (fun j r s hj => HALL.out j r s (by omega)))
      subst hkn
      clear HALL HZ
      by_cases hc : z = v.e.length
      · have hb : ((z : Int) == (v.e.length : Int)) = true := by simp [hc]
        have HFF := Lib.hid (show R5 = true from by rw [HR.out]; exact decide_eq_true hc)
        clear hc HR
        go_wp2_with fail
        go_ret
        rw [HFF.out]
        exact ⟨rfl, HX.out.below⟩
      · have hb : ((z : Int) == (v.e.length : Int)) = false := by simp; omega
        have HFF := Lib.hid (show R5 = false from by rw [HR.out]; exact decide_eq_false hc)
        clear hc HR
        go_wp2_with fail
        go_ret
        rw [HFF.out]
        exact ⟨rfl, HX.out.below⟩
set_option maxRecDepth 100000 in
set_option maxHeartbeats 4000000 in
theorem senders_any (v : Mv) (w : World) (hr : RdMe w v) (h2 : isTable v.n = true) (h4 : isSls v.e = true) :
    Calls Tryz.prog 199 #[mvVal v] w fun e w' => e = .returned (.bool (rule6 v.me)) ∧ Below w.heap.size w w' := by
  have HX := Lib.hid (Bx.start (T := 28) hr)
  have HN := Lib.hid (isSls_iff.1 h4).1
  have HAC := Lib.hid (fun W (hW : RdMe W v) => (show Calls Tryz.prog 126 #[.slice v.no v.n.length v.nc] W fun e w' => e = .returned (.int .i64 (actv v.me : Nat)) ∧ W = w' from l10Active_any v.no v.n.length v.nc v.n W hW.rn (by have := hW.nl; omega) h2))
  have HND := Lib.hid (fun x (hx : x ∈ v.e) => sl_node h4 hx)
  obtain ⟨R, hR⟩ : ∃ R, R = rule6 v.me := ⟨_, rfl⟩
  have HR6 := Lib.hid (show R = v.e.all (fun x => (actv v.me).testBit x.desc.node.toNat) from hR)
  rw [← hR]
  clear hR hr h2 h4
  generalize actv v.me = A at HAC HR6
  unfold mvVal
  go_enter Tryz.func199, Tryz.ntmps199
  go_upto_region 1 with fail
  generalize w.alloc (.cells #[.int .i64 v.id, .slice v.no v.n.length v.nc, .slice v.mo v.cs.length v.mc, .slice v.eo v.e.length v.ec] 28) = w1 at HX ⊢
  obtain ⟨z0, z1, z2, z3⟩ := HX.out.at_.all
  go_wp2_with fail
  refine (HAC.out _ HX.out.rd).mono ?_
  rintro e w2 ⟨rfl, rfl⟩
  go_wp2_with fail
  go_loopw [4] (fun i wr => ∃ k : Nat, k ≤ v.e.length ∧ i = .int .i64 k ∧ w1 = wr ∧ Hid (∀ j, j < k → A.testBit (slOf v.e j).desc.node.toNat = true)) (fun i _ => v.e.length - (intOf i).toNat)
  case atStart => exact ⟨0, Nat.zero_le _, rfl, rfl, fun j h => absurd h (by omega)⟩
  case round =>
    obtain ⟨k, hk, rfl, rfl, HALL⟩ := hrel
    by_cases hlt : k < v.e.length
    · obtain ⟨b, off, e0, hg, hx⟩ := HX.out.rd.re.at hlt
      have hk20 : k ≤ 1048576 := by have := HN.out; omega
      have HNO := Lib.hid (fun (h : A.testBit (slOf v.e k).desc.node.toNat = false) => (by
        rw [HR6.out, Bool.eq_false_iff]
        intro hc
        have := List.all_eq_true.1 hc _ (slOf_mem hlt)
        rw [h] at this
        exact Bool.noConfusion this : R = false))
      have HYES := Lib.hid (fun (h : A.testBit (slOf v.e k).desc.node.toNat = true) j (hj : j < k + 1) => (by
        rcases Nat.lt_or_ge j k with hl | hl
        · exact HALL.out j hl
        · rw [show j = k from by omega]; exact h : A.testBit (slOf v.e j).desc.node.toNat = true))
      have hnd := HND.out _ (slOf_mem hlt)
      generalize slOf v.e k = x at hx HNO HYES hnd
      obtain ⟨p, hp⟩ : ∃ p : Nat, x.desc.node = (p : Int) := ⟨x.desc.node.toNat, by omega⟩
      have hp31 : p < 32 := by omega
      rw [hp, Int.toNat_natCast] at HNO HYES
      have HC := Lib.hid (fun W => l05Has_any A p W hp31)
      obtain ⟨-, -, -, q3, -, -, -, -⟩ := hx.all8
      rw [hp] at q3
      rw [e0] at z3 ⊢
      clear hx HALL hg hnd hp e0
      rcases hd : A.testBit p with _ | _
      · have HF := Lib.hid (HNO.out hd)
        rw [hd] at HC
        clear hd HNO HYES
        go_wp2_with (go_at_call 145; (with_reducible refine (HC.out _).mono ?_); rintro e w3 ⟨rfl, rfl⟩)
        go_ret
        rw [HF.out]
        exact ⟨rfl, HX.out.below⟩
      · have HN2 := Lib.hid (HYES.out hd)
        rw [hd] at HC
        clear hd HNO HYES
        go_wp2_with (go_at_call 145; (with_reducible refine (HC.out _).mono ?_); rintro e w3 ⟨rfl, rfl⟩)
        go_roundw
        case rel => exact ⟨k + 1, by omega, by go_num, (by first | rfl | trivial), HN2⟩
        case measure => simp [intOf]; omega
    · have hkn : k = v.e.length := by omega
      have HF := Lib.hid (show R = true from by
        rw [HR6.out, List.all_eq_true]
        intro x hx
        obtain ⟨j, hj, rfl⟩ := mem_slOf hx
        exact HALL.out j (by omega))
      clear HALL
      subst hkn
      go_wp2_with fail
      go_ret
      rw [HF.out]
      exact ⟨rfl, HX.out.below⟩
end

section
open Go.RowKit
theorem grown_setSl13 (w : World) (g off : Nat) (x : Sl) : w.grownBy (setSl w g off x) (some g) := by
  unfold setSl
  exact grown_trans (grown_trans (grown_trans (grown_trans (grown_trans (grown_trans (grown_trans (grown_set _ _ _ _) (grown_set _ _ _ _)) (grown_set _ _ _ _)) (grown_set _ _ _ _)) (grown_set _ _ _ _)) (grown_set _ _ _ _)) (grown_set _ _ _ _)) (grown_set _ _ _ _)
theorem Bx.puts {T g : Nat} {w W : World} {v : Mv} (h : Bx T w W w.heap.size v) (hr : RdMe w v) (hg : w.heap.size < g) (x : Sl) : Bx T w (setSl W g 0 x) w.heap.size v := by
  have b1 : Below (w.heap.size + 1) W (setSl W g 0 x) := below_setSl hg x
  have b2 := h.below.trans (b1.mono (Nat.le_succ _))
  exact ⟨h.at_.below b1 (Nat.lt_succ_self _), hr.below b2, b2⟩
theorem rule7_pairs {m : Me} (g : ∀ i k, i < m.slots.length → k < i → sameDur (slOf m.slots i) (slOf m.slots k) = true) : rule7 m = true := by
  have sym : ∀ a b : Sl, sameDur a b = sameDur b a := fun a b => by
    unfold sameDur
    simp only [eq_comm]
  have self : ∀ a : Sl, sameDur a a = true := fun a => by simp [sameDur]
  simp only [rule7, List.all_eq_true]
  intro a ha b hb
  obtain ⟨i, hi, rfl⟩ := mem_slOf ha
  obtain ⟨k, hk, rfl⟩ := mem_slOf hb
  rcases Nat.lt_trichotomy i k with h | rfl | h
  · rw [sym]; exact g k i hk h
  · exact self _
  · exact g i k hi h
set_option maxRecDepth 100000 in
set_option maxHeartbeats 4000000 in
set_option linter.unusedSimpArgs false in
theorem durations_any (v : Mv) (w : World) (hr : RdMe w v) (h4 : isSls v.e = true) :
    Calls Tryz.prog 200 #[mvVal v] w fun e w' => e = .returned (.bool (rule7 v.me)) ∧ Below w.heap.size w w' := by
  have HX := Lib.hid (Bx.start (T := 28) hr)
  have HRD := Lib.hid hr
  have HN := Lib.hid (isSls_iff.1 h4).1
  obtain ⟨R, hR⟩ : ∃ R, R = rule7 v.me := ⟨_, rfl⟩
  have HNO := Lib.hid (fun i k (hi : i < v.e.length) (hk : k < v.e.length) (hd : sameDur (slOf v.e i) (slOf v.e k) = false) => (show R = false from by
    rw [hR, Bool.eq_false_iff]
    intro hc
    have := List.all_eq_true.1 (List.all_eq_true.1 hc _ (slOf_mem (t := v.me.slots) hi)) _ (slOf_mem (t := v.me.slots) hk)
    have e : sameDur (slOf v.me.slots i) (slOf v.me.slots k) = false := hd
    rw [e] at this
    cases this))
  have HYES := Lib.hid (fun (g : ∀ i k, i < v.e.length → k < i → sameDur (slOf v.e i) (slOf v.e k) = true) => (show R = true from by
    rw [hR]
    exact rule7_pairs g))
  rw [← hR]
  clear hR hr h4
  unfold mvVal
  go_enter Tryz.func200, Tryz.ntmps200
  go_upto_region 1 with fail
  generalize w.alloc (.cells #[.int .i64 v.id, .slice v.no v.n.length v.nc, .slice v.mo v.cs.length v.mc, .slice v.eo v.e.length v.ec] 28) = w1 at HX ⊢
  go_wp2_with fail
  go_loopw [3] (fun i wr => ∃ k : Nat, k ≤ v.e.length ∧ i = .int .i64 k ∧ Hid (Bx 28 w wr w.heap.size v) ∧ Hid (∀ i j, i < k → j < i → sameDur (slOf v.e i) (slOf v.e j) = true)) (fun i _ => v.e.length - (intOf i).toNat)
  case atStart => exact ⟨0, Nat.zero_le _, rfl, HX.out, fun i j h => absurd h (by omega)⟩
  case round =>
    clear HX
    obtain ⟨i, hi, rfl, HX, HALL⟩ := hrel
    obtain ⟨z0, z1, z2, z3⟩ := HX.out.at_.all
    by_cases hlt : i < v.e.length
    · have hi20 : i ≤ 1048576 := by have := HN.out; omega
      go_wp2_with fail
      clear z0 z1 z2 z3
      go_loopw [4] (fun j wr => ∃ k : Nat, k ≤ i ∧ j = .int .i64 k ∧ Hid (Bx 28 w wr w.heap.size v) ∧ Hid (∀ j, j < k → sameDur (slOf v.e i) (slOf v.e j) = true)) (fun j _ => i - (intOf j).toNat)
      case atStart => exact ⟨0, Nat.zero_le _, rfl, HX.out, fun j h => absurd h (by omega)⟩
      case round =>
        clear HX
        obtain ⟨k, hk, rfl, HX, HA2⟩ := hrel
        by_cases hlk : k < i
        · have hk20 : k ≤ 1048576 := by omega
          have hle : k < v.e.length := by omega
          obtain ⟨b, off, e0, -, -⟩ := HX.out.rd.re.at hlt
          have HNK := Lib.hid (HNO.out i k hlt hle)
          have HYK := Lib.hid (fun (g : sameDur (slOf v.e i) (slOf v.e k) = true) j (hj : j < k + 1) => (show sameDur (slOf v.e i) (slOf v.e j) = true from by
            rcases Nat.lt_or_ge j k with hl | hl
            · exact HA2.out j hl
            · rw [show j = k from by omega]; exact g))
          have HSI := Lib.hid (fun W (hW : RdMe W v) => (show SlIn W b (off + i * 8) (slOf v.e i) ∧ SlIn W b (off + k * 8) (slOf v.e k) from by
            obtain ⟨b1, off1, e1, -, h1⟩ := hW.re.at hlt
            obtain ⟨b2, off2, e2, -, h2⟩ := hW.re.at hle
            rw [e0] at e1 e2
            cases e1; cases e2
            exact ⟨h1, h2⟩))
          generalize hxe : slOf v.e i = x at HNK HYK HSI
          generalize hye : slOf v.e k = y at HNK HYK HSI
          have HSF := Lib.hid (fun w' (hW : Bx 28 w w' w.heap.size v) => (show w'.cell? ⟨w.heap.size, 3, none⟩ = some (.slice (some ⟨b, off, none⟩) v.e.length v.ec) ∧ w'.cell? ⟨b, off + i * 8, none⟩ = some (Value.int .i64 x.mode) ∧ w'.cell? ⟨b, off + i * 8 + 1, none⟩ = some (Value.int .i64 x.round) ∧ w'.cell? ⟨b, off + i * 8 + 2, none⟩ = some (Value.int .i64 x.slot) ∧ w'.cell? ⟨b, off + i * 8 + 3, none⟩ = some (Value.int .i64 x.desc.node) ∧ w'.cell? ⟨b, off + i * 8 + 4, none⟩ = some (Value.int .i64 x.desc.kind) ∧ w'.cell? ⟨b, off + i * 8 + 5, none⟩ = some (Value.int .i64 x.desc.size) ∧ w'.cell? ⟨b, off + i * 8 + 6, none⟩ = some (Value.int .i64 x.desc.dur) ∧ w'.cell? ⟨b, off + i * 8 + 7, none⟩ = some (Value.bool x.desc.chg) ∧ w'.cell? ⟨b, off + k * 8, none⟩ = some (Value.int .i64 y.mode) ∧ w'.cell? ⟨b, off + k * 8 + 1, none⟩ = some (Value.int .i64 y.round) ∧ w'.cell? ⟨b, off + k * 8 + 2, none⟩ = some (Value.int .i64 y.slot) ∧ w'.cell? ⟨b, off + k * 8 + 3, none⟩ = some (Value.int .i64 y.desc.node) ∧ w'.cell? ⟨b, off + k * 8 + 4, none⟩ = some (Value.int .i64 y.desc.kind) ∧ w'.cell? ⟨b, off + k * 8 + 5, none⟩ = some (Value.int .i64 y.desc.size) ∧ w'.cell? ⟨b, off + k * 8 + 6, none⟩ = some (Value.int .i64 y.desc.dur) ∧ w'.cell? ⟨b, off + k * 8 + 7, none⟩ = some (Value.bool y.desc.chg) from by
            obtain ⟨c0, c1, c2, c3, c4, c5, c6, c7⟩ := (HSI.out _ hW.rd).1.all8
            obtain ⟨d0, d1, d2, d3, d4, d5, d6, d7⟩ := (HSI.out _ hW.rd).2.all8
            exact ⟨by rw [← e0]; exact hW.at_.in_.c3, c0, c1, c2, c3, c4, c5, c6, c7, d0, d1, d2, d3, d4, d5, d6, d7⟩))
          have g1 : (i : Int) < (v.e.length : Int) := by omega
          have g2 : (k : Int) < (v.e.length : Int) := by omega
          have HGN := Lib.hid hlk
          clear HSI e0 hxe hye HA2
          go_wp2_with fail
          go_cut [5, 6] (fun s5 s6 wx => ∃ wy, wy = wx ∧ ∃ A B, s5 = .pointer (some ⟨A, 0, none⟩) ∧ s6 = .pointer (some ⟨B, 0, none⟩) ∧ Hid (SlBk 65 wy A x) ∧ Hid (SlBk 65 wy B y) ∧ Hid (Bx 28 w wy w.heap.size v))
          case first =>
            have HX2 := Lib.hid HX.out.drew
            refine wp_region_held_drew (S := fun w' => w'.cell? ⟨w.heap.size, 3, none⟩ = some (.slice (some ⟨b, off, none⟩) v.e.length v.ec) ∧ w'.cell? ⟨b, off + i * 8, none⟩ = some (Value.int .i64 x.mode) ∧ w'.cell? ⟨b, off + i * 8 + 1, none⟩ = some (Value.int .i64 x.round) ∧ w'.cell? ⟨b, off + i * 8 + 2, none⟩ = some (Value.int .i64 x.slot) ∧ w'.cell? ⟨b, off + i * 8 + 3, none⟩ = some (Value.int .i64 x.desc.node) ∧ w'.cell? ⟨b, off + i * 8 + 4, none⟩ = some (Value.int .i64 x.desc.kind) ∧ w'.cell? ⟨b, off + i * 8 + 5, none⟩ = some (Value.int .i64 x.desc.size) ∧ w'.cell? ⟨b, off + i * 8 + 6, none⟩ = some (Value.int .i64 x.desc.dur) ∧ w'.cell? ⟨b, off + i * 8 + 7, none⟩ = some (Value.bool x.desc.chg) ∧ w'.cell? ⟨b, off + k * 8, none⟩ = some (Value.int .i64 y.mode) ∧ w'.cell? ⟨b, off + k * 8 + 1, none⟩ = some (Value.int .i64 y.round) ∧ w'.cell? ⟨b, off + k * 8 + 2, none⟩ = some (Value.int .i64 y.slot) ∧ w'.cell? ⟨b, off + k * 8 + 3, none⟩ = some (Value.int .i64 y.desc.node) ∧ w'.cell? ⟨b, off + k * 8 + 4, none⟩ = some (Value.int .i64 y.desc.kind) ∧ w'.cell? ⟨b, off + k * 8 + 5, none⟩ = some (Value.int .i64 y.desc.size) ∧ w'.cell? ⟨b, off + k * 8 + 6, none⟩ = some (Value.int .i64 y.desc.dur) ∧ w'.cell? ⟨b, off + k * 8 + 7, none⟩ = some (Value.bool y.desc.chg)) (by kernel_rfl) (HSF.out _ HX2.out) (fun hHeld => ?_)
            generalize wr.drew = w2 at HX2 hHeld ⊢
            clear HX
            refine tk (i := 0) (v := ?_) rfl (Or.inl ⟨by rfl, ?_⟩) (by assumption) ?_
            rotate_left
            · (intro w hSw; (try dsimp only at hSw); go_simp; (try with_reducible rfl))
            try simp only [pa, pb, pc, Act.put, pe, pf, pg]
            refine tk (i := 1) (v := ?_) rfl (Or.inl ⟨by rfl, ?_⟩) (by assumption) ?_
            rotate_left
            · (intro w hSw; (try dsimp only at hSw); go_simp; (try with_reducible rfl))
            try simp only [pa, pb, pc, Act.put, pe, pf, pg]
            refine tk (i := 2) (v := ?_) rfl (Or.inl ⟨by rfl, ?_⟩) (by assumption) ?_
            rotate_left
            · (intro w hSw; (try dsimp only at hSw); go_simp; (try with_reducible rfl))
            try simp only [pa, pb, pc, Act.put, pe, pf, pg]
            refine tk (i := 3) (v := ?_) rfl (Or.inl ⟨by rfl, ?_⟩) (by assumption) ?_
            rotate_left
            · (intro w hSw; (try dsimp only at hSw); go_simp; (try with_reducible rfl))
            try simp only [pa, pb, pc, Act.put, pe, pf, pg]
            refine tk (i := 4) (v := ?_) rfl (Or.inl ⟨by rfl, ?_⟩) (by assumption) ?_
            rotate_left
            · (intro w hSw; (try dsimp only at hSw); go_simp; (try with_reducible rfl))
            try simp only [pa, pb, pc, Act.put, pe, pf, pg]
            refine tk (i := 5) (v := ?_) rfl (Or.inl ⟨by rfl, ?_⟩) (by assumption) ?_
            rotate_left
            · (intro w hSw; (try dsimp only at hSw); go_simp; (try with_reducible rfl))
            try simp only [pa, pb, pc, Act.put, pe, pf, pg]
            refine tk (i := 6) (v := ?_) rfl (Or.inl ⟨by rfl, ?_⟩) (by assumption) ?_
            rotate_left
            · (intro w hSw; (try dsimp only at hSw); go_simp; (try with_reducible rfl))
            try simp only [pa, pb, pc, Act.put, pe, pf, pg]
            refine tk (i := 7) (v := ?_) rfl (Or.inl ⟨by rfl, ?_⟩) (by assumption) ?_
            rotate_left
            · (intro w hSw; (try dsimp only at hSw); go_simp; (try with_reducible rfl))
            try simp only [pa, pb, pc, Act.put, pe, pf, pg]
            refine tk (i := 8) (v := ?_) rfl (Or.inl ⟨by rfl, ?_⟩) (by assumption) ?_
            rotate_left
            · (intro w hSw; (try dsimp only at hSw); go_simp; (try with_reducible rfl))
            try simp only [pa, pb, pc, Act.put, pe, pf, pg]
            refine tk (i := 9) (v := ?_) rfl (Or.inl ⟨by rfl, ?_⟩) (by assumption) ?_
            rotate_left
            · (intro w hSw; (try dsimp only at hSw); go_simp; (try with_reducible rfl))
            try simp only [pa, pb, pc, Act.put, pe, pf, pg]
            refine wpAnyH_ready (rs := [10, 11]) (by kernel_rfl) (by simp) (AllReadyH.cons rfl (fun K hK => ?_) (AllReadyH.cons rfl (fun K hK => ?_) AllReadyH.nil))
            · go_simp
              have ZA : SlBk 65 (w2.alloc (.cells #[.int .i64 0, .int .i64 0, .int .i64 0, .int .i64 0, .int .i64 0, .int .i64 0, .int .i64 0, .bool false] 65)) w2.heap.size Sl.zero := SlBk.new (x := Sl.zero) w2
              have bal := Below.alloc (Below.refl w2.heap.size w2) (Nat.le_refl _) (.cells #[.int .i64 0, .int .i64 0, .int .i64 0, .int .i64 0, .int .i64 0, .int .i64 0, .int .i64 0, .bool false] 65)
              have HX3 := Lib.hid (HX2.out.call bal)
              have loA : w.heap.size < w2.heap.size := HX2.out.at_.lt
              obtain ⟨A, hA⟩ : ∃ J, J = w2.heap.size := ⟨_, rfl⟩
              have ZA_lt : A < (w2.alloc (.cells #[.int .i64 0, .int .i64 0, .int .i64 0, .int .i64 0, .int .i64 0, .int .i64 0, .int .i64 0, .bool false] 65)).heap.size := by rw [hA]; simp
              rw [← hA] at ZA loA ⊢
              clear hA bal
              generalize w2.alloc (.cells #[.int .i64 0, .int .i64 0, .int .i64 0, .int .i64 0, .int .i64 0, .int .i64 0, .int .i64 0, .bool false] 65) = w3 at HX3 ZA ZA_lt ⊢
              refine hK.out _ _ ?_ (fun hHeld => ?_)
              · exact HSF.out _ HX3.out
              clear hK K
              try simp only [pa, pb, pc, Act.put, pe, pf, pg]
              refine wpAnyH_ready (rs := [11]) (by kernel_rfl) (by simp) (AllReadyH.cons rfl (fun K hK => ?_) AllReadyH.nil)
              go_simp
              have ZB : SlBk 65 (w3.alloc (.cells #[.int .i64 0, .int .i64 0, .int .i64 0, .int .i64 0, .int .i64 0, .int .i64 0, .int .i64 0, .bool false] 65)) w3.heap.size Sl.zero := SlBk.new (x := Sl.zero) w3
              have bal := Below.alloc (Below.refl w3.heap.size w3) (Nat.le_refl _) (.cells #[.int .i64 0, .int .i64 0, .int .i64 0, .int .i64 0, .int .i64 0, .int .i64 0, .int .i64 0, .bool false] 65)
              have HX4 := Lib.hid (HX3.out.call bal)
              replace ZA := ZA.below bal ZA.lt
              have neA : A ≠ w3.heap.size := Nat.ne_of_lt ZA_lt
              have loB : w.heap.size < w3.heap.size := HX3.out.at_.lt
              obtain ⟨B, hB⟩ : ∃ J, J = w3.heap.size := ⟨_, rfl⟩
              have ZB_lt : B < (w3.alloc (.cells #[.int .i64 0, .int .i64 0, .int .i64 0, .int .i64 0, .int .i64 0, .int .i64 0, .int .i64 0, .bool false] 65)).heap.size := by rw [hB]; simp
              rw [← hB] at ZB loB neA ⊢
              clear hB bal
              generalize w3.alloc (.cells #[.int .i64 0, .int .i64 0, .int .i64 0, .int .i64 0, .int .i64 0, .int .i64 0, .int .i64 0, .bool false] 65) = w4 at HX4 ZB ZB_lt ZA ⊢
              refine hK.out _ _ ?_ (fun hHeld => ?_)
              · exact HSF.out _ HX4.out
              clear hK K
              try simp only [pa, pb, pc, Act.put, pe, pf, pg]
              have ne_ab : A ≠ B := neA
              clear neA
              have rc := ZA.all8
              dsimp only [Sl.zero, Ds.zero] at rc
              obtain ⟨r0, r1, r2, r3, r4, r5, r6, r7⟩ := rc
              have f0 := ZA.f 0
              have f1 := ZA.f 1
              have f2 := ZA.f 2
              have f3 := ZA.f 3
              have f4 := ZA.f 4
              have f5 := ZA.f 5
              have f6 := ZA.f 6
              have f7 := ZA.f 7
              refine wpAnyH_ready (rs := [12]) (by kernel_rfl) (by simp) (AllReadyH.cons rfl (fun K hK => ?_) AllReadyH.nil)
              go_simp
              clear r0 r1 r2 r3 r4 r5 r6 r7 f0 f1 f2 f3 f4 f5 f6 f7
              change K _ (setSl w4 A 0 x)
              replace ZA := ZA.put x
              have bs := grown_setSl13 w4 A 0 x
              replace ZB := ZB.grown bs (by intro e; cases e; first | exact ne_ab rfl | exact ne_ab.symm rfl)
              have HX5 := Lib.hid (HX4.out.puts HRD.out loA x)
              generalize setSl w4 A 0 x = w5 at HX5 ZA ZB ⊢
              clear bs
              refine hK.out _ _ ?_ (fun hHeld => ?_)
              · exact HSF.out _ HX5.out
              clear hK K
              try simp only [pa, pb, pc, Act.put, pe, pf, pg]
              have rc := ZB.all8
              dsimp only [Sl.zero, Ds.zero] at rc
              obtain ⟨r0, r1, r2, r3, r4, r5, r6, r7⟩ := rc
              have f0 := ZB.f 0
              have f1 := ZB.f 1
              have f2 := ZB.f 2
              have f3 := ZB.f 3
              have f4 := ZB.f 4
              have f5 := ZB.f 5
              have f6 := ZB.f 6
              have f7 := ZB.f 7
              refine wpAnyH_ready (rs := [13]) (by kernel_rfl) (by simp) (AllReadyH.cons rfl (fun K hK => ?_) AllReadyH.nil)
              go_simp
              clear r0 r1 r2 r3 r4 r5 r6 r7 f0 f1 f2 f3 f4 f5 f6 f7
              change K _ (setSl w5 B 0 y)
              replace ZB := ZB.put y
              have bs := grown_setSl13 w5 B 0 y
              replace ZA := ZA.grown bs (by intro e; cases e; first | exact ne_ab rfl | exact ne_ab.symm rfl)
              have HX6 := Lib.hid (HX5.out.puts HRD.out loB y)
              generalize setSl w5 B 0 y = w6 at HX6 ZA ZB ⊢
              clear bs
              refine hK.out _ _ ?_ (fun hHeld => ?_)
              · exact HSF.out _ HX6.out
              clear hK K
              try simp only [pa, pb, pc, Act.put, pe, pf, pg]
              refine wpAnyH_done (by kernel_rfl) ?_ _
              go_wp2_with fail
              go_meet
              exact ⟨_, rfl, A, B, rfl, rfl, Lib.hid ZA, Lib.hid ZB, HX6⟩
            · go_simp
              have ZB : SlBk 65 (w2.alloc (.cells #[.int .i64 0, .int .i64 0, .int .i64 0, .int .i64 0, .int .i64 0, .int .i64 0, .int .i64 0, .bool false] 65)) w2.heap.size Sl.zero := SlBk.new (x := Sl.zero) w2
              have bal := Below.alloc (Below.refl w2.heap.size w2) (Nat.le_refl _) (.cells #[.int .i64 0, .int .i64 0, .int .i64 0, .int .i64 0, .int .i64 0, .int .i64 0, .int .i64 0, .bool false] 65)
              have HX3 := Lib.hid (HX2.out.call bal)
              have loB : w.heap.size < w2.heap.size := HX2.out.at_.lt
              obtain ⟨B, hB⟩ : ∃ J, J = w2.heap.size := ⟨_, rfl⟩
              have ZB_lt : B < (w2.alloc (.cells #[.int .i64 0, .int .i64 0, .int .i64 0, .int .i64 0, .int .i64 0, .int .i64 0, .int .i64 0, .bool false] 65)).heap.size := by rw [hB]; simp
              rw [← hB] at ZB loB ⊢
              clear hB bal
              generalize w2.alloc (.cells #[.int .i64 0, .int .i64 0, .int .i64 0, .int .i64 0, .int .i64 0, .int .i64 0, .int .i64 0, .bool false] 65) = w3 at HX3 ZB ZB_lt ⊢
              refine hK.out _ _ ?_ (fun hHeld => ?_)
              · exact HSF.out _ HX3.out
              clear hK K
              try simp only [pa, pb, pc, Act.put, pe, pf, pg]
              refine wpAnyH_ready (rs := [10]) (by kernel_rfl) (by simp) (AllReadyH.cons rfl (fun K hK => ?_) AllReadyH.nil)
              go_simp
              have ZA : SlBk 65 (w3.alloc (.cells #[.int .i64 0, .int .i64 0, .int .i64 0, .int .i64 0, .int .i64 0, .int .i64 0, .int .i64 0, .bool false] 65)) w3.heap.size Sl.zero := SlBk.new (x := Sl.zero) w3
              have bal := Below.alloc (Below.refl w3.heap.size w3) (Nat.le_refl _) (.cells #[.int .i64 0, .int .i64 0, .int .i64 0, .int .i64 0, .int .i64 0, .int .i64 0, .int .i64 0, .bool false] 65)
              have HX4 := Lib.hid (HX3.out.call bal)
              replace ZB := ZB.below bal ZB.lt
              have neB : B ≠ w3.heap.size := Nat.ne_of_lt ZB_lt
              have loA : w.heap.size < w3.heap.size := HX3.out.at_.lt
              obtain ⟨A, hA⟩ : ∃ J, J = w3.heap.size := ⟨_, rfl⟩
              have ZA_lt : A < (w3.alloc (.cells #[.int .i64 0, .int .i64 0, .int .i64 0, .int .i64 0, .int .i64 0, .int .i64 0, .int .i64 0, .bool false] 65)).heap.size := by rw [hA]; simp
              rw [← hA] at ZA loA neB ⊢
              clear hA bal
              generalize w3.alloc (.cells #[.int .i64 0, .int .i64 0, .int .i64 0, .int .i64 0, .int .i64 0, .int .i64 0, .int .i64 0, .bool false] 65) = w4 at HX4 ZA ZA_lt ZB ⊢
              refine hK.out _ _ ?_ (fun hHeld => ?_)
              · exact HSF.out _ HX4.out
              clear hK K
              try simp only [pa, pb, pc, Act.put, pe, pf, pg]
              have ne_ab : A ≠ B := neB.symm
              clear neB
              have rc := ZA.all8
              dsimp only [Sl.zero, Ds.zero] at rc
              obtain ⟨r0, r1, r2, r3, r4, r5, r6, r7⟩ := rc
              have f0 := ZA.f 0
              have f1 := ZA.f 1
              have f2 := ZA.f 2
              have f3 := ZA.f 3
              have f4 := ZA.f 4
              have f5 := ZA.f 5
              have f6 := ZA.f 6
              have f7 := ZA.f 7
              refine wpAnyH_ready (rs := [12]) (by kernel_rfl) (by simp) (AllReadyH.cons rfl (fun K hK => ?_) AllReadyH.nil)
              go_simp
              clear r0 r1 r2 r3 r4 r5 r6 r7 f0 f1 f2 f3 f4 f5 f6 f7
              change K _ (setSl w4 A 0 x)
              replace ZA := ZA.put x
              have bs := grown_setSl13 w4 A 0 x
              replace ZB := ZB.grown bs (by intro e; cases e; first | exact ne_ab rfl | exact ne_ab.symm rfl)
              have HX5 := Lib.hid (HX4.out.puts HRD.out loA x)
              generalize setSl w4 A 0 x = w5 at HX5 ZA ZB ⊢
              clear bs
              refine hK.out _ _ ?_ (fun hHeld => ?_)
              · exact HSF.out _ HX5.out
              clear hK K
              try simp only [pa, pb, pc, Act.put, pe, pf, pg]
              have rc := ZB.all8
              dsimp only [Sl.zero, Ds.zero] at rc
              obtain ⟨r0, r1, r2, r3, r4, r5, r6, r7⟩ := rc
              have f0 := ZB.f 0
              have f1 := ZB.f 1
              have f2 := ZB.f 2
              have f3 := ZB.f 3
              have f4 := ZB.f 4
              have f5 := ZB.f 5
              have f6 := ZB.f 6
              have f7 := ZB.f 7
              refine wpAnyH_ready (rs := [13]) (by kernel_rfl) (by simp) (AllReadyH.cons rfl (fun K hK => ?_) AllReadyH.nil)
              go_simp
              clear r0 r1 r2 r3 r4 r5 r6 r7 f0 f1 f2 f3 f4 f5 f6 f7
              change K _ (setSl w5 B 0 y)
              replace ZB := ZB.put y
              have bs := grown_setSl13 w5 B 0 y
              replace ZA := ZA.grown bs (by intro e; cases e; first | exact ne_ab rfl | exact ne_ab.symm rfl)
              have HX6 := Lib.hid (HX5.out.puts HRD.out loB y)
              generalize setSl w5 B 0 y = w6 at HX6 ZA ZB ⊢
              clear bs
              refine hK.out _ _ ?_ (fun hHeld => ?_)
              · exact HSF.out _ HX6.out
              clear hK K
              try simp only [pa, pb, pc, Act.put, pe, pf, pg]
              refine wpAnyH_done (by kernel_rfl) ?_ _
              go_wp2_with fail
              go_meet
              exact ⟨_, rfl, A, B, rfl, rfl, Lib.hid ZA, Lib.hid ZB, HX6⟩
          case rest =>
            clear HX
            obtain ⟨w2, rfl, A, B, rfl, rfl, HA, HB, HX⟩ := hcut
            obtain ⟨q0, -, q2, -, -, -, q6, -⟩ := HA.out.all8
            obtain ⟨r0, -, r2, -, -, -, r6, -⟩ := HB.out.all8
            clear HSF HA HB
            by_cases h1 : x.mode = y.mode
            · have t1 : (x.mode == y.mode) = true := by simp [h1]
              by_cases h2 : x.slot = y.slot
              · have t2 : (x.slot == y.slot) = true := by simp [h2]
                by_cases h3 : x.desc.dur = y.desc.dur
                · have t3 : (x.desc.dur != y.desc.dur) = false := by simp [h3]
                  have HN2 := Lib.hid (HYK.out (by simp [sameDur, h3]))
                  clear h1 h2 h3 HNK HYK
                  go_wp2_with fail
                  clear q0 q2 q6 r0 r2 r6
                  go_roundw
                  case rel => exact ⟨k + 1, by omega, by go_num, HX, HN2⟩
                  case measure => simp [intOf]; omega
                · have t3 : (x.desc.dur != y.desc.dur) = true := by simp [h3]
                  have HF := Lib.hid (HNK.out (by simp [sameDur, h1, h2, h3]))
                  clear h1 h2 h3 HNK HYK
                  go_wp2_with fail
                  clear q0 q2 q6 r0 r2 r6
                  go_ret
                  rw [HF.out]
                  exact ⟨rfl, HX.out.below⟩
              · have t2 : (x.slot == y.slot) = false := by simp [h2]
                have HN2 := Lib.hid (HYK.out (by simp [sameDur, h2]))
                clear h1 h2 HNK HYK
                go_wp2_with fail
                clear q0 q2 q6 r0 r2 r6
                go_roundw
                case rel => exact ⟨k + 1, by omega, by go_num, HX, HN2⟩
                case measure => simp [intOf]; omega
            · have t1 : (x.mode == y.mode) = false := by simp [h1]
              have HN2 := Lib.hid (HYK.out (by simp [sameDur, h1]))
              clear h1 HNK HYK
              go_wp2_with fail
              clear q0 q2 q6 r0 r2 r6
              go_roundw
              case rel => exact ⟨k + 1, by omega, by go_num, HX, HN2⟩
              case measure => simp [intOf]; omega
        · have hkn : k = i := by omega
          have HN2 := Lib.hid (fun a c (ha : a < i + 1) (hc : c < a) => (show sameDur (slOf v.e a) (slOf v.e c) = true from by
            rcases Nat.lt_or_ge a i with hl | hl
            · exact HALL.out a c hl hc
            · have e : a = i := by omega
              subst e
              exact HA2.out c (by omega)))
          subst hkn
          clear HA2
          go_wp2_with fail
          go_roundw
          case rel => exact ⟨k + 1, by omega, by go_num, HX, HN2⟩
          case measure => simp [intOf]; omega
    · have hkn : i = v.e.length := by omega
      have HF := Lib.hid (HYES.out (fun a c ha hc => HALL.out a c (by omega) hc))
      subst hkn
      go_wp2_with fail
      go_ret
      rw [HF.out]
      exact ⟨rfl, HX.out.below⟩
end

section
open Go.RowKit
set_option maxRecDepth 100000 in
set_option maxHeartbeats 4000000 in
theorem l13Cycle_any (v : Mv) (j : Nat) (w : World) (hr : RdMe w v) (h4 : isSls v.e = true) :
    Calls Tryz.prog 99 #[mvVal v, .int .i64 j] w fun e w' => e = .returned (.int .i64 (dursum (inMode v.e j))) ∧ Below w.heap.size w w' := by
  have HX := Lib.hid (Bx.start (T := 28) hr)
  have HN := Lib.hid (isSls_iff.1 h4).1
  have HD := Lib.hid (fun x (hx : x ∈ v.e) => sl_dur h4 hx)
  clear hr h4
  unfold mvVal
  go_enter Tryz.func99, Tryz.ntmps99
  go_upto_region 1 with fail
  generalize w.alloc (.cells #[.int .i64 v.id, .slice v.no v.n.length v.nc, .slice v.mo v.cs.length v.mc, .slice v.eo v.e.length v.ec] 28) = w1 at HX ⊢
  obtain ⟨z0, z1, z2, z3⟩ := HX.out.at_.all
  go_wp2_with fail
  go_loopw [5, 6] (fun n i wr => ∃ (k : Nat) (z : Int), k ≤ v.e.length ∧ n = .int .i64 z ∧ i = .int .i64 k ∧ w1 = wr ∧ Hid (z = dursum (inMode (v.e.take k) j))) (fun _ i _ => v.e.length - (intOf i).toNat)
  case atStart => exact ⟨0, 0, Nat.zero_le _, rfl, rfl, rfl, rfl⟩
  case round =>
    obtain ⟨k, z, hk, rfl, rfl, rfl, HZ⟩ := hrel
    by_cases hlt : k < v.e.length
    · obtain ⟨b, off, e0, hg, hx⟩ := HX.out.rd.re.at hlt
      have hk20 : k ≤ 1048576 := by have := HN.out; omega
      have hnx := inMode_next (j := j) hlt
      have hdx := HD.out _ (slOf_mem hlt)
      have hzb := dursum_in (t := inMode (v.e.take k) j) fun x hx => HD.out x (List.mem_of_mem_take (inMode_sub hx))
      have hzl : (inMode (v.e.take k) j).length ≤ 120 := by have h1 := inMode_le (v.e.take k) j; have h2 := HN.out; rw [List.length_take] at h1; omega
      rw [← HZ.out] at hzb
      generalize slOf v.e k = x at hx hnx hdx
      have hw : IntKind.i64.wrap (z + x.desc.dur) = z + x.desc.dur := by rw [IntKind.wrap_i64]; omega
      have HNX := Lib.hid hnx
      obtain ⟨q0, -, -, -, -, -, q6, -⟩ := hx.all8
      rw [e0] at z3 ⊢
      clear hx hg hnx hdx hzb hzl e0
      by_cases hm : x.mode = (j : Int)
      · have hb : (x.mode == (j : Int)) = true := by simp [hm]
        have HZ2 := Lib.hid (show z + x.desc.dur = dursum (inMode (v.e.take (k + 1)) j) from by rw [HNX.out, if_pos hm, dursum_app, ← HZ.out]; simp [dursum])
        clear hm HNX HZ
        go_wp2_with fail
        go_roundw
        case rel => exact ⟨k + 1, z + x.desc.dur, by omega, rfl, by go_num, (by first | rfl | trivial), HZ2⟩
        case measure => simp [intOf]; omega
      · have hb : (x.mode == (j : Int)) = false := by simp [hm]
        have HZ2 := Lib.hid (show z = dursum (inMode (v.e.take (k + 1)) j) from by rw [HNX.out, if_neg hm]; exact HZ.out)
        clear hm HNX HZ
        go_wp2_with fail
        go_roundw
        case rel => exact ⟨k + 1, z, by omega, rfl, by go_num, (by first | rfl | trivial), HZ2⟩
        case measure => simp [intOf]; omega
    · have hkn : k = v.e.length := by omega
      subst hkn
      have HF := Lib.hid (show dursum (inMode v.e j) = z from by rw [HZ.out, List.take_length])
      go_wp2_with fail
      go_ret
      rw [HF.out]
      exact ⟨rfl, HX.out.below⟩
set_option maxRecDepth 100000 in
set_option maxHeartbeats 4000000 in
theorem l13Served_any (v : Mv) (w : World) (hr : RdMe w v) (h2 : isTable v.n = true) (h3 : isModes (mds v.cs) = true) (h4 : isSls v.e = true) :
    Calls Tryz.prog 201 #[mvVal v] w fun e w' => e = .returned (.bool (rule9 v.me)) ∧ Below w.heap.size w w' := by
  have HX := Lib.hid (Bx.start (T := 28) hr)
  have hml : v.me.modes.length = v.cs.length := mds_len v.cs
  have HN := Lib.hid (show v.cs.length ≤ 16 ∧ v.e.length ≤ 120 from ⟨by have h1 := (isModes_iff.1 h3).1.2; have e : (mds v.cs).length = v.cs.length := mds_len v.cs; omega, (isSls_iff.1 h4).1⟩)
  have HAC := Lib.hid (fun W (hW : RdMe W v) => (show Calls Tryz.prog 126 #[.slice v.no v.n.length v.nc] W fun e w' => e = .returned (.int .i64 (actv v.me : Nat)) ∧ W = w' from l10Active_any v.no v.n.length v.nc v.n W hW.rn (by have := hW.nl; omega) h2))
  have HBD := Lib.hid (fun k (hk : k < v.cs.length) => (show 1 ≤ (mcOf v.cs k).md.rounds ∧ (mcOf v.cs k).md.rounds ≤ 8 from by have h1 := md_bounds h3 (show k < (mds v.cs).length by rw [mds_len]; exact hk); rw [mdOf_mds] at h1; exact ⟨h1.1, h1.2.1⟩))
  have HND := Lib.hid (fun x (hx : x ∈ v.e) => sl_node h4 hx)
  obtain ⟨R9, hR9⟩ : ∃ R, R = rule9 v.me := ⟨_, rfl⟩
  have HR9 := Lib.hid (show R9 = true ↔ ∀ k, k < v.cs.length → ∀ r, r < (mcOf v.cs k).md.rounds.toNat → vecOfSl (inRound v.e k r) = actv v.me from by
    have e : ∀ k, mdOf v.me.modes k = (mcOf v.cs k).md := fun k => mdOf_mds v.cs k
    rw [hR9]
    simp only [rule9, servedRound, List.all_eq_true, List.mem_range, decide_eq_true_eq, hml, e]
    exact Iff.rfl)
  rw [← hR9]
  clear hr h2 h3 h4 hml hR9
  generalize actv v.me = A at HAC HR9
  unfold mvVal
  go_enter Tryz.func201, Tryz.ntmps201
  go_upto_region 1 with fail
  generalize w.alloc (.cells #[.int .i64 v.id, .slice v.no v.n.length v.nc, .slice v.mo v.cs.length v.mc, .slice v.eo v.e.length v.ec] 28) = w1 at HX ⊢
  obtain ⟨z0, z1, z2, z3⟩ := HX.out.at_.all
  go_wp2_with fail
  refine (HAC.out _ HX.out.rd).mono ?_
  rintro e w2 ⟨rfl, rfl⟩
  go_wp2_with fail
  go_loopw [4] (fun i wr => ∃ k : Nat, k ≤ v.cs.length ∧ i = .int .i64 k ∧ w1 = wr ∧ Hid (∀ j, j < k → ∀ r, r < (mcOf v.cs j).md.rounds.toNat → vecOfSl (inRound v.e j r) = A)) (fun i _ => v.cs.length - (intOf i).toNat)
  case atStart => exact ⟨0, Nat.zero_le _, rfl, rfl, fun j h => absurd h (by omega)⟩
  case round =>
    obtain ⟨k, hk, rfl, rfl, HALL⟩ := hrel
    by_cases hlt : k < v.cs.length
    · have hk20 : k ≤ 1048576 := by have := HN.out.1; omega
      have hbd := HBD.out k hlt
      obtain ⟨bm, om, e0, c0, -⟩ := mode_cell hlt HX.out.rd (Below.refl _ _)
      have HNO := Lib.hid (fun r (hrr : r < (mcOf v.cs k).md.rounds.toNat) (g : ¬ vecOfSl (inRound v.e k r) = A) => (show R9 = false from by
        rw [Bool.eq_false_iff]
        intro hc
        exact g (HR9.out.1 hc k hlt r hrr)))
      have HYES := Lib.hid (fun (g : ∀ r, r < (mcOf v.cs k).md.rounds.toNat → vecOfSl (inRound v.e k r) = A) j (hj : j < k + 1) => (show ∀ r, r < (mcOf v.cs j).md.rounds.toNat → vecOfSl (inRound v.e j r) = A from by
        rcases Nat.lt_or_ge j k with hl | hl
        · exact HALL.out j hl
        · rw [show j = k from by omega]; exact g))
      generalize hxe : mcOf v.cs k = x at hbd c0 HNO
      rw [hxe] at HYES
      obtain ⟨RR, hRR⟩ : ∃ RR : Nat, x.md.rounds = (RR : Int) := ⟨x.md.rounds.toNat, by omega⟩
      rw [hRR] at c0
      rw [hRR, Int.toNat_natCast] at HNO HYES
      have hR8 : RR ≤ 8 := by omega
      rw [e0] at z2 ⊢
      clear hbd hRR hxe e0 HALL
      go_wp2_with fail
      go_loopw [5] (fun i wr => ∃ r : Nat, r ≤ RR ∧ i = .int .i64 r ∧ w1 = wr ∧ Hid (∀ j, j < r → vecOfSl (inRound v.e k j) = A)) (fun i _ => RR - (intOf i).toNat)
      case atStart => exact ⟨0, Nat.zero_le _, rfl, rfl, fun j h => absurd h (by omega)⟩
      case round =>
        obtain ⟨r, hrk, rfl, rfl, HDS⟩ := hrel
        by_cases hlr : r < RR
        · have HNK := Lib.hid (HNO.out r hlr)
          have HYK := Lib.hid (fun (g : vecOfSl (inRound v.e k r) = A) j (hj : j < r + 1) => (show vecOfSl (inRound v.e k j) = A from by
            rcases Nat.lt_or_ge j r with hl | hl
            · exact HDS.out j hl
            · rw [show j = r from by omega]; exact g))
          clear HDS
          go_wp2_with fail
          go_loopw [6, 7] (fun n i wr => ∃ q z : Nat, q ≤ v.e.length ∧ n = .int .i64 (z : Nat) ∧ i = .int .i64 q ∧ w1 = wr ∧ Hid (z = vecOfSl (inRound (v.e.take q) k r))) (fun _ i _ => v.e.length - (intOf i).toNat)
          case atStart => exact ⟨0, 0, Nat.zero_le _, rfl, rfl, rfl, rfl⟩
          case round =>
            obtain ⟨q, z, hq, rfl, rfl, rfl, HZ⟩ := hrel
            by_cases hql : q < v.e.length
            · obtain ⟨b, off, e1, hg, hx⟩ := HX.out.rd.re.at hql
              have hq20 : q ≤ 1048576 := by have := HN.out.2; omega
              have hnx := inRound_next (j := k) (r := r) hql
              have hnd := HND.out _ (slOf_mem hql)
              have hzb := vec_lt (t := inRound (v.e.take q) k r) fun x hx => HND.out x (List.mem_of_mem_take (inRound_sub hx))
              rw [← HZ.out] at hzb
              generalize slOf v.e q = y at hx hnx hnd
              obtain ⟨p, hp⟩ : ∃ p : Nat, y.desc.node = (p : Int) := ⟨y.desc.node.toNat, by omega⟩
              have hp31 : p < 32 := by omega
              have HC := Lib.hid (fun W => l05Set_any z p true W hzb hp31)
              have HNX := Lib.hid hnx
              have HVA := Lib.hid (show vecOfSl (inRound (v.e.take q) k r ++ [y]) = setN z p true from by rw [vec_app, ← HZ.out, hp, Int.toNat_natCast])
              obtain ⟨q0, q1, -, q3, -, -, -, -⟩ := hx.all8
              rw [hp] at q3
              rw [e1] at z3 ⊢
              clear hx hg hnx hnd hzb e1 hp
              by_cases hm : y.mode = (k : Int)
              · have hb1 : (y.mode == (k : Int)) = true := by simp [hm]
                by_cases hr2 : y.round = (r : Int)
                · have hb2 : (y.round == (r : Int)) = true := by simp [hr2]
                  have HZ2 := Lib.hid (show setN z p true = vecOfSl (inRound (v.e.take (q + 1)) k r) from by rw [HNX.out, if_pos ⟨hm, hr2⟩, HVA.out])
                  clear hm hr2 HNX HZ HVA
                  go_wp2_with (go_at_call 166; (with_reducible refine (HC.out _).mono ?_); rintro e w3 ⟨rfl, rfl⟩)
                  go_roundw
                  case rel => exact ⟨q + 1, setN z p true, by omega, rfl, by go_num, (by first | rfl | trivial), HZ2⟩
                  case measure => simp [intOf]; omega
                · have hb2 : (y.round == (r : Int)) = false := by simp [hr2]
                  have HZ2 := Lib.hid (show z = vecOfSl (inRound (v.e.take (q + 1)) k r) from by rw [HNX.out, if_neg (fun h => hr2 h.2)]; exact HZ.out)
                  clear hm hr2 HNX HZ HVA
                  go_wp2_with fail
                  go_roundw
                  case rel => exact ⟨q + 1, z, by omega, rfl, by go_num, (by first | rfl | trivial), HZ2⟩
                  case measure => simp [intOf]; omega
              · have hb1 : (y.mode == (k : Int)) = false := by simp [hm]
                have HZ2 := Lib.hid (show z = vecOfSl (inRound (v.e.take (q + 1)) k r) from by rw [HNX.out, if_neg (fun h => hm h.1)]; exact HZ.out)
                clear hm HNX HZ HVA
                go_wp2_with fail
                go_roundw
                case rel => exact ⟨q + 1, z, by omega, rfl, by go_num, (by first | rfl | trivial), HZ2⟩
                case measure => simp [intOf]; omega
            · have hqn : q = v.e.length := by omega
              subst hqn
              have hz : z = vecOfSl (inRound v.e k r) := by rw [HZ.out, List.take_length]
              rw [← hz] at HNK HYK
              clear hz HZ
              by_cases hc : z = A
              · have hb : ((z : Int) != (A : Int)) = false := by simp [hc]
                have HN2 := Lib.hid (HYK.out hc)
                clear hc HYK HNK
                go_wp2_with fail
                go_roundw
                case rel => exact ⟨r + 1, by omega, by go_num, (by first | rfl | trivial), HN2⟩
                case measure => simp [intOf]; omega
              · have hb : ((z : Int) != (A : Int)) = true := by simp; omega
                have HF := Lib.hid (HNK.out hc)
                clear hc HYK HNK
                go_wp2_with fail
                go_ret
                rw [HF.out]
                exact ⟨rfl, HX.out.below⟩
        · have hrn : r = RR := by omega
          subst hrn
          have HN2 := Lib.hid (HYES.out HDS.out)
          clear HDS HYES
          go_wp2_with fail
          go_roundw
          case rel => exact ⟨k + 1, by omega, by go_num, (by first | rfl | trivial), HN2⟩
          case measure => simp [intOf]; omega
    · have hkn : k = v.cs.length := by omega
      have HF := Lib.hid (HR9.out.2 (fun j hj => HALL.out j (by omega)))
      subst hkn
      go_wp2_with fail
      go_ret
      rw [HF.out]
      exact ⟨rfl, HX.out.below⟩
end

section
open Go.RowKit
theorem ruleN_upto {m : Me} {n : Nat} (H : ∀ j, 1 ≤ j → j < n → ruleN m j = true) (h : ruleN m n = true) : ∀ j, 1 ≤ j → j < n + 1 → ruleN m j = true := fun j h1 h2 => by
  rcases Nat.lt_or_ge j n with hl | hl
  · exact H j h1 hl
  · rw [show j = n from by omega]; exact h
set_option maxRecDepth 100000 in
set_option maxHeartbeats 4000000 in
theorem sFirstFault_any (v : Mv) (w : World) (hr : RdMe w v) :
    Calls Tryz.prog 165 #[mvVal v] w fun e w' => e = .returned (.int .i64 (firstFault v.me)) ∧ Below w.heap.size w w' := by
  have HX1 := Lib.hid (Bx.start (T := 28) hr)
  have HC5 := Lib.hid (fun h3 h4 W hW => complete_any v W hW h3 h4)
  have HC6 := Lib.hid (fun h2 h4 W hW => senders_any v W hW h2 h4)
  have HC7 := Lib.hid (fun h4 W hW => durations_any v W hW h4)
  have HC8 := Lib.hid (fun h4 j W hW => l13Cycle_any v j W hW h4)
  have HC9 := Lib.hid (fun h2 h3 h4 W hW => l13Served_any v W hW h2 h3 h4)
  have HFA := Lib.hid (fun (k : Nat) hk hk2 H h => fault_at (m := v.me) (k := k) hk hk2 H h)
  have HFN := Lib.hid (fun H => fault_none (m := v.me) H)
  obtain ⟨F, hF⟩ : ∃ F, F = firstFault v.me := ⟨_, rfl⟩
  rw [← hF] at HFA HFN ⊢
  have HEL := Lib.hid hr.el
  clear hF hr
  have HU1 : Hid (∀ j, 1 ≤ j → j < 1 → ruleN v.me j = true) := Lib.hid (fun j h1 h2 => absurd h2 (by omega))
  unfold mvVal at HC5 HC6 HC7 HC8 HC9 ⊢
  go_enter Tryz.func165, Tryz.ntmps165
  go_upto_region 1 with fail
  generalize w.alloc (.cells #[.int .i64 v.id, .slice v.no v.n.length v.nc, .slice v.mo v.cs.length v.mc, .slice v.eo v.e.length v.ec] 28) = w1 at HX1 ⊢
  obtain ⟨z0, z1, z2, z3⟩ := HX1.out.at_.all
  go_wp2_with fail
  refine (l01In_any v.id 1 16777215 _).mono ?_
  rintro e w2 ⟨rfl, rfl⟩
  have HX2 := HX1
  clear z0 z1 z2 z3 HX1
  rcases h : inRange 1 16777215 v.id with _ | _
  · have HF := Lib.hid (HFA.out 1 (by omega) (by omega) HU1.out h)
    clear h
    go_wp2_with fail
    go_ret
    rw [HF.out]
    exact ⟨rfl, HX2.out.below⟩
  have HH1 := Lib.hid h
  have HU2 := Lib.hid (ruleN_upto HU1.out h)
  clear h
  obtain ⟨z0, z1, z2, z3⟩ := HX2.out.at_.all
  go_wp2_with fail
  refine (sIsTable_any v.no v.n.length v.nc v.n _ HX2.out.rd.rn HX2.out.rd.nle HX2.out.rd.ncap HX2.out.rd.ns).mono ?_
  rintro e w3 ⟨rfl, b2⟩
  have HX3 := Lib.hid (HX2.out.call b2)
  clear z0 z1 z2 z3 b2 HX2
  rcases h : isTable v.n with _ | _
  · have HF := Lib.hid (HFA.out 2 (by omega) (by omega) HU2.out h)
    clear h
    go_wp2_with fail
    go_ret
    rw [HF.out]
    exact ⟨rfl, HX3.out.below⟩
  have HH2 := Lib.hid h
  have HU3 := Lib.hid (ruleN_upto HU2.out h)
  clear h
  obtain ⟨z0, z1, z2, z3⟩ := HX3.out.at_.all
  go_wp2_with fail
  refine (isModesS_any v.mo v.cs.length v.mc v.cs _ HX3.out.rd.rm HX3.out.rd.ml HX3.out.rd.ms).mono ?_
  rintro e w4 ⟨rfl, b3⟩
  have HX4 := Lib.hid (HX3.out.call b3)
  clear z0 z1 z2 z3 b3 HX3
  rcases h : isModes (mds v.cs) with _ | _
  · have HF := Lib.hid (HFA.out 3 (by omega) (by omega) HU3.out h)
    clear h
    go_wp2_with fail
    go_ret
    rw [HF.out]
    exact ⟨rfl, HX4.out.below⟩
  have HH3 := Lib.hid h
  have HU4 := Lib.hid (ruleN_upto HU3.out h)
  clear h
  obtain ⟨z0, z1, z2, z3⟩ := HX4.out.at_.all
  go_wp2_with fail
  refine (isSlsS_any v.eo v.e.length v.ec v.e _ HX4.out.rd.re HX4.out.rd.el).mono ?_
  rintro e w5 ⟨rfl, b4⟩
  have HX5 := Lib.hid (HX4.out.call b4)
  clear z0 z1 z2 z3 b4 HX4
  rcases h : isSls v.e with _ | _
  · have HF := Lib.hid (HFA.out 4 (by omega) (by omega) HU4.out h)
    clear h
    go_wp2_with fail
    go_ret
    rw [HF.out]
    exact ⟨rfl, HX5.out.below⟩
  have HH4 := Lib.hid h
  have HU5 := Lib.hid (ruleN_upto HU4.out h)
  clear h
  obtain ⟨z0, z1, z2, z3⟩ := HX5.out.at_.all
  go_wp2_with fail
  refine (HC5.out HH3.out HH4.out _ HX5.out.rd).mono ?_
  rintro e w6 ⟨rfl, b5⟩
  have HX6 := Lib.hid (HX5.out.call b5)
  clear z0 z1 z2 z3 b5 HX5
  rcases h : rule5 v.me with _ | _
  · have HF := Lib.hid (HFA.out 5 (by omega) (by omega) HU5.out h)
    clear h
    go_wp2_with fail
    go_ret
    rw [HF.out]
    exact ⟨rfl, HX6.out.below⟩
  have HH5 := Lib.hid h
  have HU6 := Lib.hid (ruleN_upto HU5.out h)
  clear h
  obtain ⟨z0, z1, z2, z3⟩ := HX6.out.at_.all
  go_wp2_with fail
  refine (HC6.out HH2.out HH4.out _ HX6.out.rd).mono ?_
  rintro e w7 ⟨rfl, b6⟩
  have HX7 := Lib.hid (HX6.out.call b6)
  clear z0 z1 z2 z3 b6 HX6
  rcases h : rule6 v.me with _ | _
  · have HF := Lib.hid (HFA.out 6 (by omega) (by omega) HU6.out h)
    clear h
    go_wp2_with fail
    go_ret
    rw [HF.out]
    exact ⟨rfl, HX7.out.below⟩
  have HH6 := Lib.hid h
  have HU7 := Lib.hid (ruleN_upto HU6.out h)
  clear h
  obtain ⟨z0, z1, z2, z3⟩ := HX7.out.at_.all
  go_wp2_with fail
  refine (HC7.out HH4.out _ HX7.out.rd).mono ?_
  rintro e w8 ⟨rfl, b7⟩
  have HX8 := Lib.hid (HX7.out.call b7)
  clear z0 z1 z2 z3 b7 HX7
  rcases h : rule7 v.me with _ | _
  · have HF := Lib.hid (HFA.out 7 (by omega) (by omega) HU7.out h)
    clear h
    go_wp2_with fail
    go_ret
    rw [HF.out]
    exact ⟨rfl, HX8.out.below⟩
  have HH7 := Lib.hid h
  have HU8 := Lib.hid (ruleN_upto HU7.out h)
  clear h
  have HN := Lib.hid (show v.cs.length ≤ 16 ∧ v.e.length ≤ 120 from ⟨by have h1 := (isModes_iff.1 HH3.out).1.2; have e : (mds v.cs).length = v.cs.length := mds_len v.cs; omega, (isSls_iff.1 HH4.out).1⟩)
  have HSU := Lib.hid (fun k => dursum_mode HH4.out k)
  have HR8 := Lib.hid (show ruleN v.me 8 = (List.range v.cs.length).all (fun k => decide (dursum (inMode v.e k) ≤ 32000)) from by show rule8 v.me = _; unfold rule8; rw [show v.me.modes.length = v.cs.length from mds_len v.cs]; rfl)
  have HCY := Lib.hid (HC8.out HH4.out)
  go_wp2_with fail
  go_loopw [3] (fun i wr => ∃ k : Nat, k ≤ v.cs.length ∧ i = .int .i64 k ∧ Hid (∀ j, j < k → dursum (inMode v.e j) ≤ 32000) ∧ Hid (Bx 28 w wr w.heap.size v)) (fun i _ => v.cs.length - (intOf i).toNat)
  case atStart => exact ⟨0, Nat.zero_le _, rfl, fun j h => absurd h (by omega), HX8.out⟩
  case round =>
    clear HX8
    obtain ⟨k, hk, rfl, HALL, HX⟩ := hrel
    by_cases hlt : k < v.cs.length
    · have hk20 : k ≤ 1048576 := by have := HN.out.1; omega
      have HNO := Lib.hid (fun (g : 32000 < dursum (inMode v.e k)) => (show F = 8 from HFA.out 8 (by omega) (by omega) HU8.out (by
        rw [HR8.out, Bool.eq_false_iff]
        intro hc
        have := of_decide_eq_true (List.all_eq_true.1 hc k (List.mem_range.2 hlt))
        omega)))
      have HYES := Lib.hid (fun (g : dursum (inMode v.e k) ≤ 32000) j (hj : j < k + 1) => (show dursum (inMode v.e j) ≤ 32000 from by
        rcases Nat.lt_or_ge j k with hl | hl
        · exact HALL.out j hl
        · rw [show j = k from by omega]; exact g))
      have hsu := HSU.out k
      have HCK := Lib.hid (HCY.out k)
      generalize dursum (inMode v.e k) = z at HNO HYES hsu HCK
      obtain ⟨z0, z1, z2, z3⟩ := HX.out.at_.all
      clear HALL
      by_cases hc : z ≤ 32000
      · have hg : ¬ z > 32000 := by omega
        have HN2 := Lib.hid (HYES.out hc)
        clear hc HYES HNO
        go_wp2_with fail
        refine (HCK.out _ HX.out.rd).mono ?_
        rintro e w9 ⟨rfl, b⟩
        clear z0 z1 z2 z3
        go_wp2_with fail
        go_roundw
        case rel => exact ⟨k + 1, by omega, by go_num, HN2, HX.out.call b⟩
        case measure => simp [intOf]; omega
      · have hg : z > 32000 := by omega
        have HF := Lib.hid (HNO.out (by omega))
        clear hc HYES HNO
        go_wp2_with fail
        refine (HCK.out _ HX.out.rd).mono ?_
        rintro e w9 ⟨rfl, b⟩
        clear z0 z1 z2 z3
        go_wp2_with fail
        go_ret
        rw [HF.out]
        exact ⟨rfl, below_two HX.out.below b⟩
    · have hkn : k = v.cs.length := by omega
      have HU9 := Lib.hid (ruleN_upto HU8.out (show ruleN v.me 8 = true from by rw [HR8.out, List.all_eq_true]; intro j hj; exact decide_eq_true (HALL.out j (by have := List.mem_range.1 hj; omega))))
      subst hkn
      clear HALL
      have HS9 := Lib.hid (HC9.out HH2.out HH3.out HH4.out)
      obtain ⟨z0, z1, z2, z3⟩ := HX.out.at_.all
      go_wp2_with fail
      refine (HS9.out _ HX.out.rd).mono ?_
      rintro e w9 ⟨rfl, b⟩
      have HX9 := Lib.hid (HX.out.call b)
      clear z0 z1 z2 z3 HX b
      rcases h : rule9 v.me with _ | _
      · have HF := Lib.hid (HFA.out 9 (by omega) (by omega) HU9.out h)
        clear h
        go_wp2_with fail
        go_ret
        rw [HF.out]
        exact ⟨rfl, HX9.out.below⟩
      have HU10 := Lib.hid (ruleN_upto HU9.out h)
      clear h
      have HR10 := Lib.hid (show ruleN v.me 10 = v.e.all coldOk from rfl)
      go_wp2_with fail
      obtain ⟨z0, z1, z2, z3⟩ := HX9.out.at_.all
      go_loopw [4] (fun i wr => ∃ k : Nat, k ≤ v.e.length ∧ i = .int .i64 k ∧ w9 = wr ∧ Hid (∀ j, j < k → coldOk (slOf v.e j) = true)) (fun i _ => v.e.length - (intOf i).toNat)
      case atStart => exact ⟨0, Nat.zero_le _, rfl, rfl, fun j h => absurd h (by omega)⟩
      case round =>
        obtain ⟨k, hk, rfl, rfl, HALL⟩ := hrel
        by_cases hlt : k < v.e.length
        · obtain ⟨b, off, e0, hg, hx⟩ := HX9.out.rd.re.at hlt
          have hk20 : k ≤ 1048576 := by have := HN.out.2; omega
          have HNO := Lib.hid (fun (h : coldOk (slOf v.e k) = false) => (show F = 10 from HFA.out 10 (by omega) (by omega) HU10.out (by
            rw [HR10.out, Bool.eq_false_iff]
            intro hc
            have := List.all_eq_true.1 hc _ (slOf_mem hlt)
            rw [h] at this
            exact Bool.noConfusion this)))
          have HYES := Lib.hid (fun (h : coldOk (slOf v.e k) = true) j (hj : j < k + 1) => (show coldOk (slOf v.e j) = true from by
            rcases Nat.lt_or_ge j k with hl | hl
            · exact HALL.out j hl
            · rw [show j = k from by omega]; exact h))
          generalize slOf v.e k = x at hx HNO HYES
          obtain ⟨q0, -, -, -, q4, -, -, -⟩ := hx.all8
          rw [e0] at z3 ⊢
          clear hx HALL hg e0
          by_cases h3 : x.desc.kind = 3
          · have t3 : (x.desc.kind == 3) = true := by simp [h3]
            by_cases h0 : x.mode = 0
            · have t0 : (x.mode != 0) = false := by simp [h0]
              have HN2 := Lib.hid (HYES.out (by simp [coldOk, h0]))
              clear h3 h0 HNO HYES
              go_wp2_with fail
              go_roundw
              case rel => exact ⟨k + 1, by omega, by go_num, (by first | rfl | trivial), HN2⟩
              case measure => simp [intOf]; omega
            · have t0 : (x.mode != 0) = true := by simp [h0]
              have HF := Lib.hid (HNO.out (by simp [coldOk, h0, h3]))
              clear h3 h0 HNO HYES
              go_wp2_with fail
              go_ret
              rw [HF.out]
              exact ⟨rfl, HX9.out.below⟩
          · have t3 : (x.desc.kind == 3) = false := by simp [h3]
            have HN2 := Lib.hid (HYES.out (by simp [coldOk, h3]))
            clear h3 HNO HYES
            go_wp2_with fail
            go_roundw
            case rel => exact ⟨k + 1, by omega, by go_num, (by first | rfl | trivial), HN2⟩
            case measure => simp [intOf]; omega
        · have hkn : k = v.e.length := by omega
          have HF := Lib.hid (HFN.out (ruleN_upto HU10.out (show ruleN v.me 10 = true from by
            rw [HR10.out, List.all_eq_true]
            intro x hx
            obtain ⟨j, hj, rfl⟩ := mem_slOf hx
            exact HALL.out j (by omega))))
          clear HALL
          subst hkn
          go_wp2_with fail
          go_ret
          rw [HF.out]
          exact ⟨rfl, HX9.out.below⟩
set_option maxRecDepth 100000 in
set_option maxHeartbeats 4000000 in
theorem sIsMedl_any (v : Mv) (w : World) (hr : RdMe w v) :
    Calls Tryz.prog 125 #[mvVal v] w fun e w' => e = .returned (.bool (isMedl v.me)) ∧ Below w.heap.size w w' := by
  have HX := Lib.hid (Bx.start (T := 28) hr)
  have HC := Lib.hid (fun W hW => sFirstFault_any v W hW)
  unfold isMedl
  generalize firstFault v.me = F at HC ⊢
  clear hr
  unfold mvVal at HC ⊢
  by_cases hF : F = 0
  · have hb : (F == 0) = true := by simp [hF]
    rw [show decide (F = 0) = true from decide_eq_true hF]
    clear hF
    go_enter Tryz.func125, Tryz.ntmps125
    go_upto_region 1 with fail
    generalize w.alloc (.cells #[.int .i64 v.id, .slice v.no v.n.length v.nc, .slice v.mo v.cs.length v.mc, .slice v.eo v.e.length v.ec] 28) = w1 at HX ⊢
    obtain ⟨z0, z1, z2, z3⟩ := HX.out.at_.all
    go_wp2_with fail
    refine (HC.out _ HX.out.rd).mono ?_
    rintro e w3 ⟨rfl, b3⟩
    clear z0 z1 z2 z3
    go_wp2_with fail
    go_ret
    exact ⟨rfl, below_two HX.out.below b3⟩
  · have hb : (F == 0) = false := by simp [hF]
    rw [show decide (F = 0) = false from decide_eq_false hF]
    clear hF
    go_enter Tryz.func125, Tryz.ntmps125
    go_upto_region 1 with fail
    generalize w.alloc (.cells #[.int .i64 v.id, .slice v.no v.n.length v.nc, .slice v.mo v.cs.length v.mc, .slice v.eo v.e.length v.ec] 28) = w1 at HX ⊢
    obtain ⟨z0, z1, z2, z3⟩ := HX.out.at_.all
    go_wp2_with fail
    refine (HC.out _ HX.out.rd).mono ?_
    rintro e w3 ⟨rfl, b3⟩
    clear z0 z1 z2 z3
    go_wp2_with fail
    go_ret
    exact ⟨rfl, below_two HX.out.below b3⟩
end
end Go.Proofs.YthihjhidjnadaaaGreat
