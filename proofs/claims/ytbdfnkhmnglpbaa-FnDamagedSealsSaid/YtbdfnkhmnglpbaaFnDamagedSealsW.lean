/-
  The walk of laws.FnDamagedSeals: at every input it returns true and writes nothing that was there.
-/
import Derived.Test.YtbdfnkhmnglpbaaRows
import Derived.Test.YtbdfnkhmnglpbaaHB
import Derived.Test.YtbdfnkhmnglpbaaBase
import Derived.WalkKit
import Derived.ProofKit
import Derived.OpenShut
import Derived.ShutString
import Derived.ChangeOld
import Derived.Below
namespace Go.Proofs.Ytbdfnkhmnglpbaa.fnDamagedSeals
open Go.ChangeShapes Go.WideShapes Go.ChangeAt Go.RowKit
open Go.ChangeMaps (open_string shut_string)
set_option linter.unusedVariables false


/-- WHAT THE WALK IS TOLD OF A SLICE OF INTEGERS THAT CAME IN: it is nil; or it leads to a row of 'cap' cells, the numbers 'zs' (the first 'len' are its elements, the rest its spare room), each fitting its kind. -/
def IsRow (k : IntKind) (w : World) (a : Option Addr) (len cap : Nat) (zs : List Int) : Prop :=
  (a = none ∧ len = 0 ∧ cap = 0 ∧ zs = []) ∨
  ∃ x, a = some x ∧ len ≤ cap ∧ cap ≤ maxLen ∧ zs.length = cap ∧ (∀ i, i < zs.length → w.cell? (x.add i) = some (.int k (zs.getD i 0))) ∧ ∀ n ∈ zs, (Lit.int k n).wf = true

/-! ### STEP 1: THE WALK: the Go text returns true, AND WRITES NOTHING THAT WAS THERE: 'Below w.heap.size w w'' (Derived/Below.lean: '.refl', '.alloc', '.drew', '.setCell' at a new block, '.trans'). Open each 'IsRow' by 'rcases' AHEAD of 'go_enter'; part every test ahead of the walk. -/
set_option linter.unusedVariables false in set_option maxHeartbeats 2000000 in set_option maxRecDepth 100000 in
theorem walk (a0 : Option Addr) (len0 cap0 : Nat) (z0 : List Int) (w : World) (w0 : IsRow .u8 w a0 len0 cap0 z0) :
    Calls Try.prog 5 #[.slice a0 len0 cap0] w fun e w' => e = .returned (.bool true) ∧ Below w.heap.size w w' := by
  have hr := rdB_of_row w0
  clear w0
  generalize List.take len0 z0 = cs at hr
  have HR := Lib.hid hr; clear hr
  by_cases hbig : len0 ≤ 4096
  rotate_left
  · go_enter Try.func5, Try.ntmps5
    go_wp2_with fail
    refine (big_yes _ _ _ _ hbig).mono ?_
    rintro e w' ⟨rfl, rfl⟩
    go_wp2
    go_ret
    exact ⟨rfl, Below.refl _ _⟩
  go_enter Try.func5, Try.ntmps5
  go_wp2_with fail
  refine (big_no _ _ _ _ hbig).mono ?_
  rintro e w' ⟨rfl, rfl⟩
  go_wp2_with fail
  refine (drawSealFrame_any _ _ _ cs _ HR.out (by omega)).mono ?_
  rintro e w1 ⟨a, q, t, m, r, s, k, ao1, cp1, d, id, t', m', r', s', k', rfl, o1, hdl, b1⟩
  have H : Held 2 w w1 _ := Held.start.make o1 b1
  have HW1 := Lib.hid b1.size
  clear b1 o1
  obtain ⟨r0, r1, hF⟩ : ∃ r0 r1, sealFrame ⟨a, q, t, m, r, s, k, d⟩ id t' m' r' s' k' = (r0, r1) := ⟨_, _, rfl⟩
  have hrl : r0.length ≤ 45 := by have h := sealFrame_len ⟨a, q, t, m, r, s, k, d⟩ id t' m' r' s' k'; rw [hF] at h; exact h
  have HF := Lib.hid hF; clear hF
  have hdl2 : d.length ≤ 1048576 := by omega
  go_upto_region 4 with fail
  have T := Two.start (a := a) (q := q) (t := t) (m := m) (r := r) (s := s) (k := k) (v := .slice ao1 d.length cp1) (t' := t') (m' := m') (r' := r') (s' := s') (k' := k') w1
  replace H := H.still T.below
  generalize (w1.alloc (.cells #[.int .i64 a, .int .i64 q, .int .i64 t, .int .i64 m, .int .i64 r, .int .i64 s, .int .i64 k, .slice ao1 d.length cp1] 28)).alloc (.cells #[.int .i64 t', .int .i64 m', .int .i64 r', .int .i64 s', .int .i64 k'] 25) = w2 at T H ⊢
  obtain ⟨⟨c0, c1, c2, c3, c4, c5, c6, c7⟩, d0, d1, d2, d3, d4⟩ := T.all
  go_wp2_with fail
  clear c0 c1 c2 c3 c4 c5 c6 c7 d0 d1 d2 d3 d4
  refine (sSealFrame_any _ _ _ _ _ _ _ _ _ _ _ _ _ _ _ _ _ (H.rd 0 rfl rfl) hdl2).mono ?_
  rintro e w3 m3
  rw [HF.out] at m3
  change Makes2 2 _ r0 r1 _ _ at m3
  obtain ⟨p3, c3, rfl, o3, -, b3⟩ := m3.get
  clear m3
  replace T := T.call b3
  replace H := H.make o3 b3
  clear o3 b3
  by_cases hc : r1 = 0
  rotate_left
  · have t1 : (r1 != 0) = true := by simp [hc]
    clear hc
    go_wp2
    go_ret
    exact ⟨rfl, H.below⟩
  subst hc
  -- the sealed bytes
  obtain ⟨hcode, hout⟩ := seal_yes HF.out
  obtain ⟨hfr, -, -⟩ := sealCode_0 hcode
  have hby : isBytes r0 = true := by rw [hout]; exact isBytes_app (frameBytes_bytes hfr) (three_bytes (sealNum_in _ _ _ _ _ _ _ _)) (by rw [three_len]; have := frameBytes_small hfr; omega)
  have h4 : 4 ≤ r0.length := by rw [hout, List.length_append, three_len]; have := frameBytes_len ⟨a, q, t, m, r, s, k, d⟩; omega
  clear hcode hout hfr
  have hbb : bytesToBits r0 = (bitsOf8 r0, 0) := bb_0 hby
  have hbl : (bitsOf8 r0).length = 8 * r0.length := bits8_len r0
  have HBB := Lib.hid hbb; have HBL := Lib.hid hbl; clear hbb hbl hby
  go_wp2_with fail
  refine (bytesToBits_any _ _ _ _ (H.rd 0 rfl rfl) (by omega)).mono ?_
  rintro e w4 m4
  rw [HBB.out] at m4
  change Makes2 2 _ (bitsOf8 r0) 0 _ _ at m4
  obtain ⟨p4, cap, rfl, o4, -, b4⟩ := m4.get
  rw [HBL.out] at o4 ⊢
  clear m4
  have hT3 := T.st.lt
  replace T := T.call b4
  have H4 := H.make o4 b4
  have O4 := Lib.hid (o4.more (base' := w1.heap.size + 2) (by omega))
  obtain ⟨g, rfl⟩ := own_block1 o4 (by omega)
  have hlo : ∀ b off, p3 = some ⟨b, off, none⟩ → b ≠ g := fun b off e he => by
    have h1 := (o4.block g rfl).1
    obtain ⟨b2, off2, e2, hl2⟩ := (H.rd 0 rfl rfl).block (by omega)
    rw [e] at e2
    cases e2
    omega
  clear H o4 b4 hT3
  have hmul : IntKind.i64.wrap (8 * (r0.length : Int)) = ((8 * r0.length : Nat) : Int) := by rw [IntKind.wrap_i64]; omega
  have hne8 : (((8 * r0.length : Nat) : Int) != ((8 * r0.length : Nat) : Int)) = false := by simp
  go_wp2_with fail
  clear hmul hne8
  refine (rollB_any w.heap.size _ _ _ cs _ _ (rdB_more HR.out (Nat.le_refl _) H4.below) H4.below.size (by omega)).mono ?_
  rintro e w5 ⟨e, rfl, hde, hdi, b5⟩
  have D0 : Hid (Dmg w w1 w5 w.heap.size e g (8 * r0.length) cap (bitsOf8 r0) r0 p3 a q t m r s k (.slice ao1 d.length cp1) t' m' r' s' k') := Lib.hid
    ⟨T.call b5, hdi, O4.out.below b5, (H4.rd 1 rfl rfl).below b5, below_two H4.below b5, HW1.out, Nat.le_refl _, by have := T.st.lt; omega, by have := (O4.out.block g rfl).2; omega, fun b off he => ⟨hlo b off he, by
      obtain ⟨b2, off2, e2, hl2⟩ := (H4.rd 1 rfl rfl).block (by omega)
      rw [he] at e2
      cases e2
      omega⟩⟩
  clear T H4 O4 hlo hdi b5 HR hde
  obtain ⟨lo, hlo⟩ : ∃ lo, lo = p3 := ⟨_, rfl⟩
  rw [← hlo] at D0 ⊢
  clear hlo
  go_wp2
  go_loopw [11, 12] (fun i u wr => ∃ (n : Nat) (bs : List Int), n ≤ 3 ∧ i = .int .i64 n ∧ Hid (bs.length = 8 * r0.length ∧ (∀ x ∈ bs, 0 ≤ x ∧ x ≤ 1) ∧ bs.take 2 = (bitsOf8 r0).take 2 ∧ weight (diffBits (bitsOf8 r0) bs) ≤ n) ∧ Dmg w w1 wr w.heap.size e g (8 * r0.length) cap bs r0 lo a q t m r s k (.slice ao1 d.length cp1) t' m' r' s' k') (fun i _ _ => 3 - (intOf i).toNat)
  case atStart => exact ⟨0, bitsOf8 r0, Nat.zero_le _, rfl, ⟨HBL.out, bits8_in r0, rfl, by rw [diff_self]; exact Int.le_refl _⟩, D0.out⟩
  case round =>
    clear D0
    obtain ⟨n, bs, hn, rfl, HB, D⟩ := hrel
    by_cases hlt : n < 3
    · have D1 := Lib.hid D; clear D
      have hw1 : IntKind.i64.wrap (((8 * r0.length : Nat) : Int) - 2) = ((8 * r0.length : Nat) : Int) - 2 := by rw [IntKind.wrap_i64]; omega
      go_wp2_with fail
      refine (belowB_any w.heap.size e (8 * (r0.length : Int) - 2) _ D1.out.dice (by omega) (by omega)).mono ?_
      rintro e' w6 ⟨x, rfl, x0, x1, hs6, g6⟩
      have D2 := Lib.hid (D1.out.throw hs6 g6)
      clear hs6 g6 D1 hw1
      obtain ⟨x, rfl⟩ := Int.eq_ofNat_of_zero_le x0
      obtain ⟨i, hi⟩ : ∃ i, i = x + 2 := ⟨_, rfl⟩
      have hadd : IntKind.i64.wrap (2 + (x : Int)) = (i : Int) := by rw [IntKind.wrap_i64]; omega
      have hi2 : i < 8 * r0.length := by omega
      have hi3 : (i : Int) < 8 * (r0.length : Int) := by omega
      have hi4 : 2 ≤ i := by omega
      clear x0 x1 hi
      go_wp2_with fail
      clear hadd
      refine (belowB_any w.heap.size e 2 _ D2.out.dice (by omega) (by omega)).mono ?_
      rintro e' w7 ⟨y, rfl, y0, y1, hs7, g7⟩
      have D3 := Lib.hid (D2.out.throw hs7 g7)
      clear hs7 g7 D2
      obtain ⟨hdst, hfz, -, -⟩ := own_store D3.out.own HB.out.1 hi2 y
      have D4 := Lib.hid (D3.out.store HB.out.1 hi2 y)
      have HB2 : Hid ((bs.set i y).length = 8 * r0.length ∧ (∀ x ∈ bs.set i y, 0 ≤ x ∧ x ≤ 1) ∧ (bs.set i y).take 2 = (bitsOf8 r0).take 2 ∧ weight (diffBits (bitsOf8 r0) (bs.set i y)) ≤ ((n + 1 : Nat) : Int)) := Lib.hid ⟨by rw [List.length_set]; exact HB.out.1, bits_set HB.out.2.1 ⟨y0, by omega⟩, by rw [take_set2 hi4]; exact HB.out.2.2.1, by have h := diff_set (bitsOf8 r0) bs i y (by rw [HBL.out, HB.out.1]); have := HB.out.2.2.2; omega⟩
      obtain ⟨z, hz⟩ : ∃ z, z = bs.getD i 0 := ⟨_, rfl⟩
      rw [← hz] at hdst
      clear hz D3
      go_wp2
      go_roundw
      case rel => exact ⟨n + 1, bs.set i y, by omega, by go_num, HB2, D4.out⟩
      case measure => simp [intOf]; omega
    · have hn3 : n = 3 := by omega
      subst hn3
      have D1 := Lib.hid D; clear D
      obtain ⟨hbl, hbi, htk, hwt⟩ := HB.out
      have hib : isBits bs = true := isBits_iff.2 ⟨by omega, hbi⟩
      have h8 : bs.length / 8 = r0.length := by omega
      have hbz : bitsToBytes bs = (bytesTo bs r0.length, 0) := by rw [bi_0 hib (by omega), h8]
      have hbtl : (bytesTo bs r0.length).length = r0.length := bytesTo_len _ _
      have hdam : bs = bitsOf8 r0 ∨ openFrame (bytesTo bs r0.length) id t' m' r' s' k' = (Fr.zero, 7) := by
        by_cases h : bs = bitsOf8 r0
        · exact .inl h
        · exact .inr (damaged_open HF.out hbl hbi htk hwt h)
      have hsame : bs = bitsOf8 r0 → bytesTo bs r0.length = r0 := fun h => by
        have h2 := (bytes_round HBB.out).2
        rw [← h, hbz] at h2
        simpa using h2
      have HBZ := Lib.hid hbz; have HDAM := Lib.hid hdam; have HSA := Lib.hid hsame; have HTL := Lib.hid hbtl
      clear hib h8 hbz hdam hsame htk hwt hbi hbtl
      have rd := (D1.out.own.get)
      obtain ⟨_, _, e9, o9, r9⟩ := rd
      rw [hbl] at e9
      cases e9
      have hcap := Own.cap o9
      have hcc : bs.length ≤ cap := by omega
      go_wp2_with fail
      have hcon := bitsToBytes_any (some ⟨g, 0, none⟩) cap bs _ r9 (by omega) hcc
      rw [hbl] at hcon
      refine hcon.mono ?_
      clear hcon
      rintro e' w8 m8
      rw [HBZ.out] at m8
      change Makes2 2 _ (bytesTo bs r0.length) 0 _ _ at m8
      obtain ⟨p8, c8, rfl, o8, r8, b8⟩ := m8.get
      generalize bytesTo bs r0.length = ys at HDAM HSA HTL o8 r8 ⊢
      rw [HTL.out] at o8 r8 ⊢
      have T8 := D1.out.two.call b8
      have L8 := D1.out.list.below b8
      have B8 := Lib.hid (below_two D1.out.below b8)
      have C8 := Own.cap o8
      clear m8 b8 D1 o9 r9 o8 hcap hcc
      obtain ⟨d0, d1, d2, d3, d4⟩ := T8.all.2
      go_wp2_with fail
      clear d0 d1 d2 d3 d4
      have hopen := openFrame_any id t' m' r' s' k' p8 c8 ys _ (by rw [HTL.out]; exact r8) (by have := HTL.out; omega) (by have := HTL.out; omega) C8.2
      rw [HTL.out] at hopen
      refine hopen.mono ?_
      clear hopen
      obtain ⟨⟨f0, f1, f2, f3, f4, f5, f6, dd⟩, z, hz⟩ : ∃ f z, openFrame ys id t' m' r' s' k' = (f, z) := ⟨_, _, rfl⟩
      rw [hz]
      rintro e' w9 ⟨p9, c9, rfl, o9, b9⟩
      simp only at o9 ⊢
      have hzz : ys = r0 ∨ z = 7 := by
        rcases HDAM.out with h | h
        · exact .inl (HSA.out h)
        · rw [hz] at h
          simp only [Prod.mk.injEq] at h
          exact .inr h.2
      replace L8 := L8.below b9
      replace r8 := r8.below b9
      replace B8 := Lib.hid (below_two B8.out b9)
      clear o9 b9 T8 hz HDAM HSA
      have hal : Below w9.heap.size w9 (w9.alloc (.cells #[.int .i64 f0, .int .i64 f1, .int .i64 f2, .int .i64 f3, .int .i64 f4, .int .i64 f5, .int .i64 f6, .slice p9 dd.length c9] 28)) := (Below.refl _ _).alloc (Nat.le_refl _) _
      go_upto_region 18 with fail
      replace L8 := L8.below hal
      replace r8 := r8.below hal
      replace B8 := Lib.hid (below_two B8.out hal)
      clear hal
      generalize w9.alloc (.cells #[.int .i64 f0, .int .i64 f1, .int .i64 f2, .int .i64 f3, .int .i64 f4, .int .i64 f5, .int .i64 f6, .slice p9 dd.length c9] 28) = wa at L8 r8 B8 ⊢
      go_wp2_with fail
      refine (like_any _ _ _ _ _ _ _ _ _ r8 L8 (by omega) (by omega)).mono ?_
      rintro e' wb ⟨rfl, qb, rfl⟩
      by_cases hys : ys = r0
      · rw [decide_eq_true hys]
        go_wp2
        go_ret
        exact ⟨rfl, below_drewN' B8.out qb⟩
      · rw [decide_eq_false hys]
        have hz7 : z = 7 := by rcases hzz with h | h; exact absurd h hys; exact h
        subst hz7
        go_wp2
        go_ret
        exact ⟨rfl, below_drewN' B8.out qb⟩


end Go.Proofs.Ytbdfnkhmnglpbaa.fnDamagedSeals
