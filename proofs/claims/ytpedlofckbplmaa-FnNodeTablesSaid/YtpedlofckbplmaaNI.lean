/-
  Chapter 10: the model's ReadNodeTable.
-/
import Derived.Test.YtpedlofckbplmaaNG
import Derived.Test.YtpedlofckbplmaaSame
namespace Go.Proofs.Ytpedlofckbplmaa
open Go.RowKit

/-- What l10Read leaves. -/
def GotNx (w : World) (o : Option (List Nd × Nat)) (e : Ending) (w' : World) : Prop :=
  match o with
  | some (t, a) => ∃ v, e = .returned (.tuple #[v, .int .i64 (a : Int), .bool true]) ∧ OwnN 59 w' w.heap.size v t ∧ Below w.heap.size w w'
  | none => e = .returned (.tuple #[.slice none 0 0, .int .i64 0, .bool false]) ∧ Below w.heap.size w w'
theorem nds_none {xs : List Int} {k : Nat} (h : ndsTo xs k = none) : ∀ j, ndsTo xs (k + j) = none
  | 0 => h
  | j + 1 => by rw [← Nat.add_assoc, ndsTo, nds_none h j]; rfl
theorem rd_none {xs : List Int} {k : Nat} (h0 : ¬ xs.length = 0) (h : ndsTo xs k = none) (hk : k ≤ (xs.getD 0 0).toNat) : readTab xs = none := by
  have h1 := nds_none h ((xs.getD 0 0).toNat - k)
  rw [show k + ((xs.getD 0 0).toNat - k) = (xs.getD 0 0).toNat from by omega] at h1
  unfold readTab
  rw [if_neg h0, h1]; rfl
theorem rd_tab {xs : List Int} {t : List Nd} {a : Nat} (h0 : ¬ xs.length = 0) (h : ndsTo xs (xs.getD 0 0).toNat = some (t, a)) : readTab xs = if isTable t = true ∧ tabBytes t = xs.take a then some (t, a) else none := by
  unfold readTab
  rw [if_neg h0, h]; rfl
theorem nds_len {xs : List Int} : ∀ {k : Nat} {p : List Nd × Nat}, ndsTo xs k = some p → p.1.length = k
  | 0, p, h => by cases h; rfl
  | k + 1, p, h => by
    rw [ndsTo] at h
    obtain ⟨p0, h1, h2⟩ := Option.bind_eq_some_iff.1 h
    obtain ⟨q, h3, rfl⟩ := Option.map_eq_some_iff.1 h2
    simp only
    rw [List.length_append, nds_len h1]; rfl
theorem nds_small {xs : List Int} (hb : ∀ x ∈ xs, 0 ≤ x ∧ x ≤ 255) : ∀ {k : Nat} {p : List Nd × Nat}, ndsTo xs k = some p → ∀ x ∈ p.1, x.name.size ≤ 255
  | 0, p, h => by cases h; intro x hx; cases hx
  | k + 1, p, h => by
    rw [ndsTo] at h
    obtain ⟨p0, h1, h2⟩ := Option.bind_eq_some_iff.1 h
    obtain ⟨q, h3, rfl⟩ := Option.map_eq_some_iff.1 h2
    intro x hx
    rcases List.mem_append.1 hx with hx | hx
    · exact nds_small hb h1 x hx
    · rw [List.mem_singleton] at hx
      subst hx
      unfold ndAt at h3
      split at h3
      · cases h3
        have := bytes_at hb (p0.2 + 4)
        simp only
        rw [strOfNums_size, List.length_take]
        omega
      · cases h3
theorem rows_neN {w : World} {b1 b2 E E' s1 s2 n n' : Nat} {v v' : Value} {c c' : List Value} (h : w.ownsRow b1 E s1 v n c) (h' : w.ownsRow b2 E' s2 v' n' c') (hne : E ≠ E') : v.ownBlock = none ∨ v.ownBlock ≠ v'.ownBlock := by
  rcases h.2 with ⟨rfl, -⟩ | ⟨g, cap, cur, rfl, -, hg, -⟩
  · exact .inl rfl
  · exact .inr (fun e => ownsRow_ne h' hg hne (by simpa [Value.ownBlock] using e))
theorem row_formN {w : World} {b E s n : Nat} {v : Value} {c : List Value} (h : w.ownsRow b E s v n c) : ∃ ao cap, v = .slice ao n cap := by
  rcases h.2 with ⟨rfl, rfl⟩ | ⟨g, cap, cur, rfl, -⟩
  · exact ⟨none, 0, rfl⟩
  · exact ⟨_, cap, rfl⟩
theorem OwnK.one {k : IntKind} {E base : Nat} {w : World} (hE : base ≤ w.heap.size) : OwnK k E (w.alloc (.cells #[] E)) base (.slice (some ⟨w.heap.size, 0, none⟩) 0 0) [] := OwnK.of_alloc_nil hE
set_option maxHeartbeats 4000000 in
set_option maxRecDepth 100000 in
set_option linter.unusedSimpArgs false in
theorem l10Read_any (ao : Option Addr) (n cap : Nat) (xs : List Int) (w : World) (hr : Rd w ao n xs) (hn : n ≤ 1048576) (hcap : n ≤ cap) (hcap2 : cap ≤ 9223372036854775807) (hby : ∀ x ∈ xs, 0 ≤ x ∧ x ≤ 255) :
    Calls Try.prog 60 #[.slice ao n cap] w (GotNx w (readTab xs)) := by
  have hl := hr.len
  by_cases h0 : n = 0
  · have hF : readTab xs = none := by unfold readTab; rw [if_pos (by omega)]
    rw [hF]
    have h0' : ((n : Int) == 0) = true := by rw [beq_iff_eq]; omega
    clear hr hF h0 hl
    go_enter Try.func60, Try.ntmps60
    go_wp2_with fail
    go_ret3
    exact ⟨rfl, Below.refl _ _⟩
  have h0' : ((n : Int) == 0) = false := by rw [beq_eq_false_iff_ne]; omega
  have hpn : 0 < n := by omega
  have hpni : (0 : Int) < (n : Int) := by omega
  have h0x : ¬ xs.length = 0 := by omega
  obtain ⟨b, off, rfl, hc⟩ := hr.here (by omega)
  have hc0 := hc 0 (by omega)
  have hblt : b < w.heap.size := World.block_lt_of_cell? w _ hc0
  obtain ⟨N, hN⟩ : ∃ N : Nat, N = (xs.getD 0 0).toNat := ⟨_, rfl⟩
  have hn4 := bytes_at hby 0
  have hN0 : xs.getD 0 0 = (N : Int) := by omega
  have hN1 : N ≤ 255 := by omega
  rw [hN0, Nat.add_zero] at hc0
  have hnone := fun k (h : ndsTo xs k = none) (hk : k ≤ N) => rd_none h0x h (by rw [← hN]; exact hk)
  have htab := fun t a (h : ndsTo xs N = some (t, a)) => rd_tab (t := t) (a := a) h0x (by rw [← hN]; exact h)
  have hle := fun k p (h : ndsTo xs k = some p) => (by have h1 := ndsTo_le (xs := xs) (by omega) h; omega : p.2 ≤ n)
  have hsm := fun k p (h : ndsTo xs k = some p) => nds_small hby h
  have HCE := Lib.hid hc; have HR := Lib.hid hr; have HBY := Lib.hid hby; have HNONE := Lib.hid hnone; have HTAB := Lib.hid htab; have HLE := Lib.hid hle; have HSM := Lib.hid hsm
  clear hc hr hby hnone htab hle hsm hn4 hN0 hN h0 h0x
  have HLEN := Lib.hid hl; clear hl
  go_enter Try.func60, Try.ntmps60
  have hb0 : Below w.heap.size w (w.alloc (.cells #[] 59)) := (Below.refl _ _).alloc (Nat.le_refl _) _
  have hc1 := (hb0.cell (p := ⟨b, off, none⟩) hblt).trans hc0
  have ho0 : OwnN 59 (w.alloc (.cells #[] 59)) w.heap.size (.slice (some ⟨w.heap.size, 0, none⟩) 0 0) [] := OwnN.of_alloc_nil (Nat.le_refl _)
  have HO0 := Lib.hid ho0; have HB0 := Lib.hid hb0; clear ho0 hb0
  go_wp2_with fail
  clear hc0 hc1 h0'
  go_loopw [5, 6, 7] (fun o i m wr => ∃ (k : Nat) (t : List Nd) (a : Nat), k ≤ N ∧ m = .int .i64 ((N - k : Nat) : Int) ∧ i = .int .i64 (a : Int) ∧ Hid (ndsTo xs k = some (t, a)) ∧ OwnN 59 wr w.heap.size o t ∧ Below w.heap.size w wr) (fun _ _ m _ => (intOf m).toNat)
  case atStart => exact ⟨0, [], 1, Nat.zero_le _, by simp, rfl, rfl, HO0.out, HB0.out⟩
  case round =>
    clear HO0 HB0
    obtain ⟨k, t, a, hk, rfl, rfl, hnd, ho, hb⟩ := hrel
    have hal : a ≤ n := HLE.out _ _ hnd.out
    have HTL := Lib.hid (show t.length ≤ 255 from by have := nds_len hnd.out; simp only at this; omega)
    have hn1 : ndsTo xs (k + 1) = (ndAt xs a).map fun q => (t ++ [q.1], q.2) := by rw [ndsTo, hnd.out]; rfl
    have HO := Lib.hid ho; have HB := Lib.hid hb; have HN1 := Lib.hid hn1
    clear ho hb hn1
    by_cases hlt : k < N
    · obtain ⟨J, hJ⟩ : ∃ J : Nat, J = N - k - 1 := ⟨_, rfl⟩
      have hJ1 : ((N - k : Nat) : Int) = (J : Int) + 1 := by omega
      have hJ2 : N - (k + 1) = J := by omega
      rw [hJ1]
      have HJ2 := Lib.hid hJ2
      have hJb : J ≤ 255 := by omega
      clear hJ hJ1 hJ2
      have hpos : (0 : Int) < (J : Int) + 1 := by omega
      by_cases hA : n < a + 5
      · have hF := HNONE.out (k + 1) (by rw [HN1.out]; unfold ndAt; rw [HLEN.out, if_neg (by omega)]; rfl) hlt
        rw [hF]
        have hAi : (n : Int) < (a : Int) + 5 := by omega
        have hwa : IntKind.i64.wrap ((a : Int) + 5) = (a : Int) + 5 := by rw [IntKind.wrap_i64]; omega
        clear hF
        go_wp2_with fail
        go_ret3
        exact ⟨rfl, HB.out⟩
      have hAi : ¬ (n : Int) < (a : Int) + 5 := by omega
      have hAd : decide ((n : Int) < (a : Int) + 5) = false := decide_eq_false hAi
      have hcell := fun j (hj : a + j < n) => (HB.out.cell (p := ⟨b, off + (a + j), none⟩) hblt).trans (HCE.out (a + j) hj)
      have c4 := hcell 4 (by omega)
      obtain ⟨M, hM⟩ : ∃ M : Nat, M = (xs.getD (a + 4) 0).toNat := ⟨_, rfl⟩
      have hm4 := bytes_at HBY.out (a + 4)
      have hM0 : xs.getD (a + 4) 0 = (M : Int) := by omega
      have hM1 : M ≤ 255 := by omega
      rw [hM0] at c4
      have hAt : ndAt xs a = if a + 5 + M ≤ n then some (⟨xs.getD a 0, strOfNums ((xs.drop (a + 5)).take M), 256 * xs.getD (a + 1) 0 + xs.getD (a + 2) 0, decide (xs.getD (a + 3) 0 = 1)⟩, a + 5 + M) else none := by
        unfold ndAt
        rw [← hM, HLEN.out]
        by_cases hq : a + 5 + M ≤ n
        · rw [if_pos ⟨by omega, hq⟩, if_pos hq]
        · rw [if_neg (fun hq2 => hq hq2.2), if_neg hq]
      have HAT := Lib.hid hAt
      have HCELL := Lib.hid hcell
      clear hAt hcell hm4 hM0 hM
      have c4' : wr.cell? ⟨b, off + (a + 4), none⟩ = some (.int .i64 (M : Int)) := c4
      have hw5 : IntKind.i64.wrap ((a : Int) + 5) = (a : Int) + 5 := by rw [IntKind.wrap_i64]; omega
      have hw4 : IntKind.i64.wrap ((a : Int) + 4) = (a : Int) + 4 := by rw [IntKind.wrap_i64]; omega
      by_cases hBd : n < a + 5 + M
      · have hF := HNONE.out (k + 1) (by rw [HN1.out, HAT.out, if_neg (by omega)]; rfl) hlt
        rw [hF]
        have hBi : (n : Int) < (a : Int) + 5 + (M : Int) := by omega
        clear hF
        go_wp2_with fail
        go_ret3
        exact ⟨rfl, HB.out⟩
      have hBi : ¬ (n : Int) < (a : Int) + 5 + (M : Int) := by omega
      have hAM : a + 5 + M ≤ n := by omega
      obtain ⟨x0, hx0⟩ : ∃ x, x = xs.getD a 0 := ⟨_, rfl⟩
      obtain ⟨x1, hx1⟩ : ∃ x, x = xs.getD (a + 1) 0 := ⟨_, rfl⟩
      obtain ⟨x2, hx2⟩ : ∃ x, x = xs.getD (a + 2) 0 := ⟨_, rfl⟩
      obtain ⟨x3, hx3⟩ : ∃ x, x = xs.getD (a + 3) 0 := ⟨_, rfl⟩
      obtain ⟨S0, hS0⟩ : ∃ S0, S0 = xs.drop (a + 5) := ⟨_, rfl⟩
      have hS0l : S0.length = n - (a + 5) := by rw [hS0, List.length_drop, HLEN.out]
      have hSg : ∀ i, S0.getD i 0 = xs.getD (a + 5 + i) 0 := fun i => by rw [hS0]; simp [List.getD, List.getElem?_drop]
      have hat := HAT.out
      rw [if_pos hAM, ← hx0, ← hx1, ← hx2, ← hx3, ← hS0] at hat
      obtain ⟨L, hL⟩ : ∃ L, L = S0.take M := ⟨_, rfl⟩
      have hLl : L.length = M := by rw [hL, List.length_take, hS0l]; omega
      rw [← hL] at hat
      have hnd1 : ndsTo xs (k + 1) = some (t ++ [⟨x0, strOfNums L, 256 * x1 + x2, decide (x3 = 1)⟩], a + 5 + M) := by rw [HN1.out, hat]; rfl
      have b0 := bytes_at HBY.out a
      have b1 := bytes_at HBY.out (a + 1)
      have b2 := bytes_at HBY.out (a + 2)
      have d0 := HCELL.out 0 (by omega)
      have d1 := HCELL.out 1 (by omega)
      have d2 := HCELL.out 2 (by omega)
      have d3 := HCELL.out 3 (by omega)
      rw [Nat.add_zero, ← hx0] at d0
      rw [← hx1] at d1 b1; rw [← hx2] at d2 b2; rw [← hx3] at d3; rw [← hx0] at b0
      have HND1 := Lib.hid hnd1; have HSL := Lib.hid hS0l; have HSG := Lib.hid hSg; have HL := Lib.hid hL; have HLL := Lib.hid hLl
      have HD0 := Lib.hid d0; have HD1 := Lib.hid d1; have HD2 := Lib.hid d2; have HD3 := Lib.hid d3; have HC4 := Lib.hid c4'
      have HAM := Lib.hid hAM
      have hblr : b < wr.heap.size := Nat.lt_of_lt_of_le hblt HB.out.size
      clear hat HAT hnd1 hS0l hSg hL hLl d0 d1 d2 d3 hx0 hx1 hx2 hx3 hS0 HN1 hAM hnd
      have hb8 : Below wr.heap.size wr (wr.alloc (.cells #[] 5)) := (Below.refl _ _).alloc (Nat.le_refl _) _
      have ho8 : OwnK .u8 5 (wr.alloc (.cells #[] 5)) wr.heap.size (.slice (some ⟨wr.heap.size, 0, none⟩) 0 0) (S0.take 0) := by rw [List.take_zero]; exact OwnK.one (Nat.le_refl _)
      have HO8 := Lib.hid ho8; have HB8 := Lib.hid hb8; clear ho8 hb8
      go_wp2_with fail
      clear c4 c4'
      generalize hW8 : wr.alloc (.cells #[] 5) = w8 at HO8 HB8 ⊢
      clear hW8
      generalize hG : wr.heap.size = G at HO8 HB8 hblr ⊢
      have HGG := Lib.hid hG; clear hG
      go_loopw [8, 9] (fun o i wq => ∃ q : Nat, a + 5 ≤ q ∧ q ≤ a + 5 + M ∧ i = .int .i64 (q : Int) ∧ OwnK .u8 5 wq G o (S0.take (q - (a + 5))) ∧ Below G wr wq) (fun _ i _ => a + 5 + M - (intOf i).toNat)
      case atStart => exact ⟨a + 5, Nat.le_refl _, by omega, by go_num, by rw [Nat.sub_self]; exact HO8.out, HB8.out⟩
      case round =>
        rename_i wo _
        clear HO8 HB8
        obtain ⟨q, hq0, hq1, rfl, ho, hb⟩ := hrel
        have c4 : wr.cell? ⟨b, off + (a + 4), none⟩ = some (.int .i64 (M : Int)) := (hb.cell (p := ⟨b, off + (a + 4), none⟩) hblr).trans HC4.out
        by_cases hqm : q < a + 5 + M
        · have hqi : (q : Int) < (a : Int) + 5 + (M : Int) := by omega
          have hqn : (q : Int) < (n : Int) := by have := HAM.out; omega
          have ce : wr.cell? ⟨b, off + q, none⟩ = some (.int .i64 (xs.getD q 0)) := (hb.cell (p := ⟨b, off + q, none⟩) hblr).trans (by have h := HCELL.out (q - a) (by have := HAM.out; omega); rwa [show a + (q - a) = q from by omega] at h)
          have hsn : S0.take (q + 1 - (a + 5)) = S0.take (q - (a + 5)) ++ [xs.getD q 0] := by
            rw [show q + 1 - (a + 5) = (q - (a + 5)) + 1 from by omega, take_succ' S0 _ (by rw [HSL.out]; have := HAM.out; omega), HSG.out, show a + 5 + (q - (a + 5)) = q from by omega]
          have hll : (S0.take (q - (a + 5))).length ≤ 4294967296 := by rw [List.length_take]; omega
          have hxb := bytes_at HBY.out q
          obtain ⟨x, hxe⟩ : ∃ x, x = xs.getD q 0 := ⟨_, rfl⟩
          rw [← hxe] at ce hsn hxb
          have hw : IntKind.u8.wrap x = x := by
            simp only [IntKind.wrap, IntKind.signed, IntKind.bits]
            simp
            omega
          have HSN := Lib.hid hsn; have HOK := Lib.hid ho; have HBK := Lib.hid hb; clear hsn hxe ho hb
          go_wp2_with (at_builtin; refine append_byte _ rfl (.tmp 54) (.tmp 60) rfl G Try.underlying22 infoU8 _ _ rfl (HOK.out.below ((Below.refl _ _).alloc (Nat.le_refl _) _)) _ _ _ rfl (new_cell rfl) hll (by have := HBK.out.size; have := HGG.out; simp; omega) ?_; intro v2 w2 o2 b2)
          rw [← HSN.out] at o2
          have HO2 := Lib.hid o2; have HB2 := Lib.hid ((HBK.out.alloc (by have := HBK.out.size; have := HGG.out; omega) _).trans b2); clear o2 b2 ce c4
          go_roundw
          case rel => exact ⟨q + 1, by omega, by omega, by go_num, HO2.out, HB2.out⟩
          case measure => simp [intOf]; omega
        · have hqe : q = a + 5 + M := by omega
          subst hqe
          rw [show a + 5 + M - (a + 5) = M from by omega, ← HL.out] at ho
          obtain ⟨ao8, cap8, hv8⟩ := row_formN ho
          subst hv8
          have hqi : ¬ ((a + 5 + M : Nat) : Int) < (a : Int) + 5 + (M : Int) := by omega
          have hBW := HB.out.trans (hb.mono (by have := HB.out.size; have := HGG.out; omega))
          have hOW := HO.out.below (by rw [HGG.out]; exact hb)
          have hLL := HLL.out
          rw [hLL] at ho ⊢
          have HBW := Lib.hid hBW; have HOW := Lib.hid hOW; have HOK := Lib.hid ho
          have HE0 := Lib.hid ((hb.cell (p := ⟨b, off + a, none⟩) hblr).trans HD0.out)
          have HE1 := Lib.hid ((hb.cell (p := ⟨b, off + (a + 1), none⟩) hblr).trans HD1.out)
          have HE2 := Lib.hid ((hb.cell (p := ⟨b, off + (a + 2), none⟩) hblr).trans HD2.out)
          have HE3 := Lib.hid ((hb.cell (p := ⟨b, off + (a + 3), none⟩) hblr).trans HD3.out)
          have hbq : b < wr.heap.size := Nat.lt_of_lt_of_le hblt hBW.size
          clear hBW hOW ho hb hLL HO HB
          go_upto_region 15 with fail
          clear c4 hqi
          have hcv : ∀ (W : World), OwnK .u8 5 W G (.slice ao8 M cap8) L → (convert 22 9 (.slice ao8 M cap8)).run Try.prog W = .ok (.string (strOfNums L)) W := fun W h => h.string Try.underlying22 Try.underlying5 9 Try.underlying9
          have HCV := Lib.hid hcv; clear hcv
          have i0 : (a : Int) < (n : Int) := by have := HAM.out; omega
          have i1 : (a : Int) + 1 < (n : Int) := by have := HAM.out; omega
          have i2 : (a : Int) + 2 < (n : Int) := by have := HAM.out; omega
          have i3 : (a : Int) + 3 < (n : Int) := by have := HAM.out; omega
          have j1 : (0 : Int) ≤ (a : Int) + 1 := by omega
          have j2 : (0 : Int) ≤ (a : Int) + 2 := by omega
          have j3 : (0 : Int) ≤ (a : Int) + 3 := by omega
          have t2 : ((a : Int) + 2).toNat = a + 2 := by omega
          have t3 : ((a : Int) + 3).toNat = a + 3 := by omega
          have wz1 : IntKind.i64.wrap ((a : Int) + 1) = (a : Int) + 1 := by rw [IntKind.wrap_i64]; omega
          have wz2 : IntKind.i64.wrap ((a : Int) + 2) = (a : Int) + 2 := by rw [IntKind.wrap_i64]; omega
          have wz3 : IntKind.i64.wrap ((a : Int) + 3) = (a : Int) + 3 := by rw [IntKind.wrap_i64]; omega
          have wz4 : IntKind.i64.wrap (256 * x1) = 256 * x1 := by rw [IntKind.wrap_i64]; omega
          have wz5 : IntKind.i64.wrap (256 * x1 + x2) = 256 * x1 + x2 := by rw [IntKind.wrap_i64]; omega
          have hbd : Below wr.heap.size wr wr.drew := Below.drew (Below.refl _ _)
          have HOWd := Lib.hid (HOW.out.below hbd)
          have HOKd := Lib.hid (HOK.out.below hbd)
          have HBWd := Lib.hid (below_two HBW.out hbd)
          have hbqd : b < wr.drew.heap.size := hbq
          have HF0 := Lib.hid ((hbd.cell (p := ⟨b, off + a, none⟩) hbq).trans HE0.out)
          have HF1 := Lib.hid ((hbd.cell (p := ⟨b, off + (a + 1), none⟩) hbq).trans HE1.out)
          have HF2 := Lib.hid ((hbd.cell (p := ⟨b, off + (a + 2), none⟩) hbq).trans HE2.out)
          have HF3 := Lib.hid ((hbd.cell (p := ⟨b, off + (a + 3), none⟩) hbq).trans HE3.out)
          clear hbd
          refine wp_region_held_drew (S := fun w' => w'.cell? ⟨b, off + a, none⟩ = some (.int .i64 x0) ∧ w'.cell? ⟨b, off + (a + 1), none⟩ = some (.int .i64 x1) ∧ w'.cell? ⟨b, off + (a + 2), none⟩ = some (.int .i64 x2) ∧ w'.cell? ⟨b, off + (a + 3), none⟩ = some (.int .i64 x3) ∧ (convert 22 9 (.slice ao8 M cap8)).run Try.prog w' = .ok (.string (strOfNums L)) w') (by kernel_rfl) (⟨HE0.out, HE1.out, HE2.out, HE3.out, HCV.out _ HOK.out⟩) (fun hHeld => ?_)
          generalize wr.drew = wd at HOWd HOKd HBWd hbqd HF0 HF1 HF2 HF3 hHeld ⊢
          clear HE0 HE1 HE2 HE3 HOW HOK HBW HD0 HD1 HD2 HD3 HC4
          refine wpAnyH_take (i := 0) (v := ?_) rfl (by kernel_rfl) (by kernel_rfl) (by kernel_rfl) (fun _ _ _ h => h) (Or.inl ⟨by rfl, ?_⟩) (by assumption) ?_
          rotate_left
          · (intro w hSw; (try dsimp only at hSw); go_simp; (try with_reducible rfl))
          try simp only [List.getElem_toArray, List.getElem_cons_succ, List.getElem_cons_zero, Act.put, List.setIfInBounds_toArray, List.set_cons_zero, List.set_cons_succ]
          refine wpAnyH_take (i := 1) (v := ?_) rfl (by kernel_rfl) (by kernel_rfl) (by kernel_rfl) (fun _ _ _ h => h) (Or.inl ⟨by rfl, ?_⟩) (by assumption) ?_
          rotate_left
          · (intro w hSw; (try dsimp only at hSw); go_simp; (try with_reducible rfl))
          try simp only [List.getElem_toArray, List.getElem_cons_succ, List.getElem_cons_zero, Act.put, List.setIfInBounds_toArray, List.set_cons_zero, List.set_cons_succ]
          refine wpAnyH_take (i := 2) (v := ?_) rfl (by kernel_rfl) (by kernel_rfl) (by kernel_rfl) (fun _ _ _ h => h) (Or.inl ⟨by rfl, ?_⟩) (by assumption) ?_
          rotate_left
          · (intro w hSw; (try dsimp only at hSw); go_simp; (try with_reducible rfl))
          try simp only [List.getElem_toArray, List.getElem_cons_succ, List.getElem_cons_zero, Act.put, List.setIfInBounds_toArray, List.set_cons_zero, List.set_cons_succ]
          refine wpAnyH_take (i := 3) (v := ?_) rfl (by kernel_rfl) (by kernel_rfl) (by kernel_rfl) (fun _ _ _ h => h) (Or.inl ⟨by rfl, ?_⟩) (by assumption) ?_
          rotate_left
          · (intro w hSw; (try dsimp only at hSw); go_simp; (try with_reducible rfl))
          try simp only [List.getElem_toArray, List.getElem_cons_succ, List.getElem_cons_zero, Act.put, List.setIfInBounds_toArray, List.set_cons_zero, List.set_cons_succ]
          refine wpAnyH_take (i := 4) (v := ?_) rfl (by kernel_rfl) (by kernel_rfl) (by kernel_rfl) (fun _ _ _ h => h) (Or.inl ⟨by rfl, ?_⟩) (by assumption) ?_
          rotate_left
          · (intro w hSw; (try dsimp only at hSw); go_simp; (try with_reducible rfl))
          try simp only [List.getElem_toArray, List.getElem_cons_succ, List.getElem_cons_zero, Act.put, List.setIfInBounds_toArray, List.set_cons_zero, List.set_cons_succ]
          refine wpAnyH_take (i := 5) (v := ?_) rfl (by kernel_rfl) (by kernel_rfl) (by kernel_rfl) (fun _ _ _ h => h) (Or.inl ⟨by rfl, ?_⟩) (by assumption) ?_
          rotate_left
          · (intro w hSw; (try dsimp only at hSw); go_simp; (try with_reducible rfl))
          try simp only [List.getElem_toArray, List.getElem_cons_succ, List.getElem_cons_zero, Act.put, List.setIfInBounds_toArray, List.set_cons_zero, List.set_cons_succ]
          refine wpAnyH_take (i := 6) (v := ?_) rfl (by kernel_rfl) (by kernel_rfl) (by kernel_rfl) (fun _ _ _ h => h) (Or.inl ⟨by rfl, ?_⟩) (by assumption) ?_
          rotate_left
          · (intro w hSw; (try dsimp only at hSw); go_simp; (try with_reducible rfl))
          try simp only [List.getElem_toArray, List.getElem_cons_succ, List.getElem_cons_zero, Act.put, List.setIfInBounds_toArray, List.set_cons_zero, List.set_cons_succ]
          refine wpAnyH_take (i := 7) (v := ?_) rfl (by kernel_rfl) (by kernel_rfl) (by kernel_rfl) (fun _ _ _ h => h) (Or.inl ⟨by rfl, ?_⟩) (by assumption) ?_
          rotate_left
          · (intro w hSw; (try dsimp only at hSw); go_simp; (try with_reducible rfl))
          try simp only [List.getElem_toArray, List.getElem_cons_succ, List.getElem_cons_zero, Act.put, List.setIfInBounds_toArray, List.set_cons_zero, List.set_cons_succ]
          refine wpAnyH_take (i := 8) (v := ?_) rfl (by kernel_rfl) (by kernel_rfl) (by kernel_rfl) (fun _ _ _ h => h) (Or.inl ⟨by rfl, ?_⟩) (by assumption) ?_
          rotate_left
          · (intro w hSw; (try dsimp only at hSw); go_simp; (try with_reducible rfl))
          try simp only [List.getElem_toArray, List.getElem_cons_succ, List.getElem_cons_zero, Act.put, List.setIfInBounds_toArray, List.set_cons_zero, List.set_cons_succ]
          refine wpAnyH_take (i := 9) (v := ?_) rfl (by kernel_rfl) (by kernel_rfl) (by kernel_rfl) (fun _ _ _ h => h) (Or.inl ⟨by rfl, ?_⟩) (by assumption) ?_
          rotate_left
          · (intro w hSw; (try dsimp only at hSw); go_simp; (try with_reducible rfl))
          try simp only [List.getElem_toArray, List.getElem_cons_succ, List.getElem_cons_zero, Act.put, List.setIfInBounds_toArray, List.set_cons_zero, List.set_cons_succ]
          refine wpAnyH_take (i := 10) (v := ?_) rfl (by kernel_rfl) (by kernel_rfl) (by kernel_rfl) (fun _ _ _ h => h) (Or.inl ⟨by rfl, ?_⟩) (by assumption) ?_
          rotate_left
          · (intro w hSw; (try dsimp only at hSw); go_simp; (try with_reducible rfl))
          try simp only [List.getElem_toArray, List.getElem_cons_succ, List.getElem_cons_zero, Act.put, List.setIfInBounds_toArray, List.set_cons_zero, List.set_cons_succ]
          refine wpAnyH_take (i := 11) (v := ?_) rfl (by kernel_rfl) (by kernel_rfl) (by kernel_rfl) (fun _ _ _ h => h) (Or.inl ⟨by rfl, ?_⟩) (by assumption) ?_
          rotate_left
          · (intro w hSw; (try dsimp only at hSw); go_simp; (try with_reducible rfl))
          try simp only [List.getElem_toArray, List.getElem_cons_succ, List.getElem_cons_zero, Act.put, List.setIfInBounds_toArray, List.set_cons_zero, List.set_cons_succ]
          refine wpAnyH_take (i := 12) (v := ?_) rfl (by kernel_rfl) (by kernel_rfl) (by kernel_rfl) (fun _ _ _ h => h) (Or.inl ⟨by rfl, ?_⟩) (by assumption) ?_
          rotate_left
          · (intro w hSw; (try dsimp only at hSw); go_simp; (try with_reducible rfl))
          try simp only [List.getElem_toArray, List.getElem_cons_succ, List.getElem_cons_zero, Act.put, List.setIfInBounds_toArray, List.set_cons_zero, List.set_cons_succ]
          refine wpAnyH_take (i := 13) (v := ?_) rfl (by kernel_rfl) (by kernel_rfl) (by kernel_rfl) (fun _ _ _ h => h) (Or.inl ⟨by rfl, ?_⟩) (by assumption) ?_
          rotate_left
          · (intro w hSw; (try dsimp only at hSw); go_simp; (try with_reducible rfl))
          try simp only [List.getElem_toArray, List.getElem_cons_succ, List.getElem_cons_zero, Act.put, List.setIfInBounds_toArray, List.set_cons_zero, List.set_cons_succ]
          refine wpAnyH_take (i := 14) (v := ?_) rfl (by kernel_rfl) (by kernel_rfl) (by kernel_rfl) (fun _ _ _ h => h) (Or.inl ⟨by rfl, ?_⟩) (by assumption) ?_
          rotate_left
          · (intro w hSw; (try dsimp only at hSw); go_simp; (try with_reducible rfl))
          try simp only [List.getElem_toArray, List.getElem_cons_succ, List.getElem_cons_zero, Act.put, List.setIfInBounds_toArray, List.set_cons_zero, List.set_cons_succ]
          refine wpAnyH_take (i := 15) (v := ?_) rfl (by kernel_rfl) (by kernel_rfl) (by kernel_rfl) (fun _ _ _ h => h) (Or.inl ⟨by rfl, ?_⟩) (by assumption) ?_
          rotate_left
          · (intro w hSw; (try dsimp only at hSw); go_simp; (try with_reducible rfl))
          try simp only [List.getElem_toArray, List.getElem_cons_succ, List.getElem_cons_zero, Act.put, List.setIfInBounds_toArray, List.set_cons_zero, List.set_cons_succ]
          refine wpAnyH_take (i := 16) (v := ?_) rfl (by kernel_rfl) (by kernel_rfl) (by kernel_rfl) (fun _ _ _ h => h) (Or.inl ⟨by rfl, ?_⟩) (by assumption) ?_
          rotate_left
          · (intro w hSw; (try dsimp only at hSw); go_simp; (try with_reducible rfl))
          try simp only [List.getElem_toArray, List.getElem_cons_succ, List.getElem_cons_zero, Act.put, List.setIfInBounds_toArray, List.set_cons_zero, List.set_cons_succ]
          refine wpAnyH_take (i := 17) (v := ?_) rfl (by kernel_rfl) (by kernel_rfl) (by kernel_rfl) (fun _ _ _ h => h) (Or.inl ⟨by rfl, ?_⟩) (by assumption) ?_
          rotate_left
          · (intro w hSw; (try dsimp only at hSw); go_simp; (try with_reducible rfl))
          try simp only [List.getElem_toArray, List.getElem_cons_succ, List.getElem_cons_zero, Act.put, List.setIfInBounds_toArray, List.set_cons_zero, List.set_cons_succ]
          refine wpAnyH_take (i := 18) (v := ?_) rfl (by kernel_rfl) (by kernel_rfl) (by kernel_rfl) (fun _ _ _ h => h) (Or.inl ⟨by rfl, ?_⟩) (by assumption) ?_
          rotate_left
          · (intro w hSw; (try dsimp only at hSw); go_simp; (try with_reducible rfl))
          try simp only [List.getElem_toArray, List.getElem_cons_succ, List.getElem_cons_zero, Act.put, List.setIfInBounds_toArray, List.set_cons_zero, List.set_cons_succ]
          refine wpAnyH_take (i := 19) (v := ?_) rfl (by kernel_rfl) (by kernel_rfl) (by kernel_rfl) (fun _ _ _ h => h) (Or.inl ⟨by rfl, ?_⟩) (by assumption) ?_
          rotate_left
          · (intro w hSw; (try dsimp only at hSw); go_simp; (try with_reducible rfl))
          try simp only [List.getElem_toArray, List.getElem_cons_succ, List.getElem_cons_zero, Act.put, List.setIfInBounds_toArray, List.set_cons_zero, List.set_cons_succ]
          refine wpAnyH_take (i := 20) (v := ?_) rfl (by kernel_rfl) (by kernel_rfl) (by kernel_rfl) (fun _ _ _ h => h) (Or.inl ⟨by rfl, ?_⟩) (by assumption) ?_
          rotate_left
          · (intro w hSw; (try dsimp only at hSw); go_simp; (try with_reducible rfl))
          try simp only [List.getElem_toArray, List.getElem_cons_succ, List.getElem_cons_zero, Act.put, List.setIfInBounds_toArray, List.set_cons_zero, List.set_cons_succ]
          refine wpAnyH_take (i := 21) (v := ?_) rfl (by kernel_rfl) (by kernel_rfl) (by kernel_rfl) (fun _ _ _ h => h) (Or.inl ⟨by rfl, ?_⟩) (by assumption) ?_
          rotate_left
          · (intro w hSw; (try dsimp only at hSw); go_simp; (try with_reducible rfl))
          try simp only [List.getElem_toArray, List.getElem_cons_succ, List.getElem_cons_zero, Act.put, List.setIfInBounds_toArray, List.set_cons_zero, List.set_cons_succ]
          refine wpAnyH_take (i := 22) (v := ?_) rfl (by kernel_rfl) (by kernel_rfl) (by kernel_rfl) (fun _ _ _ h => h) (Or.inl ⟨by rfl, ?_⟩) (by assumption) ?_
          rotate_left
          · (intro w hSw; (try dsimp only at hSw); go_simp; (try with_reducible rfl))
          try simp only [List.getElem_toArray, List.getElem_cons_succ, List.getElem_cons_zero, Act.put, List.setIfInBounds_toArray, List.set_cons_zero, List.set_cons_succ]
          refine wpAnyH_take (i := 23) (v := ?_) rfl (by kernel_rfl) (by kernel_rfl) (by kernel_rfl) (fun _ _ _ h => h) (Or.inl ⟨by rfl, ?_⟩) (by assumption) ?_
          rotate_left
          · (intro w hSw; (try dsimp only at hSw); go_simp; (try with_reducible rfl))
          try simp only [List.getElem_toArray, List.getElem_cons_succ, List.getElem_cons_zero, Act.put, List.setIfInBounds_toArray, List.set_cons_zero, List.set_cons_succ]
          refine wpAnyH_take (i := 24) (v := ?_) rfl (by kernel_rfl) (by kernel_rfl) (by kernel_rfl) (fun _ _ _ h => h) (Or.inl ⟨by rfl, ?_⟩) (by assumption) ?_
          rotate_left
          · (intro w hSw; (try dsimp only at hSw); go_simp; (try with_reducible rfl))
          try simp only [List.getElem_toArray, List.getElem_cons_succ, List.getElem_cons_zero, Act.put, List.setIfInBounds_toArray, List.set_cons_zero, List.set_cons_succ]
          refine wpAnyH_take (i := 25) (v := ?_) rfl (by kernel_rfl) (by kernel_rfl) (by kernel_rfl) (fun _ _ _ h => h) (Or.inl ⟨by rfl, ?_⟩) (by assumption) ?_
          rotate_left
          · (intro w hSw; (try dsimp only at hSw); go_simp; (try with_reducible rfl))
          try simp only [List.getElem_toArray, List.getElem_cons_succ, List.getElem_cons_zero, Act.put, List.setIfInBounds_toArray, List.set_cons_zero, List.set_cons_succ]
          have hbl : Below wd.heap.size wd (wd.alloc (.cells #[.int .i64 x0, .string (strOfNums L), .int .i64 (256 * x1 + x2), .bool (decide (x3 = 1))] 59)) := (Below.refl _ _).alloc (Nat.le_refl _) _
          have hnd := (NdAt.new (T := 59) (x := ⟨x0, strOfNums L, 256 * x1 + x2, decide (x3 = 1)⟩) wd).in_
          have hne := rows_neN HOKd.out HOWd.out (by decide)
          have HOW5 := Lib.hid (HOWd.out.below hbl)
          have HOK5 := Lib.hid (HOKd.out.below hbl)
          have HBW5 := Lib.hid (below_two HBWd.out hbl)
          have HG0 := Lib.hid ((hbl.cell (p := ⟨b, off + a, none⟩) hbqd).trans HF0.out)
          have HG1 := Lib.hid ((hbl.cell (p := ⟨b, off + (a + 1), none⟩) hbqd).trans HF1.out)
          have HG2 := Lib.hid ((hbl.cell (p := ⟨b, off + (a + 2), none⟩) hbqd).trans HF2.out)
          have HG3 := Lib.hid ((hbl.cell (p := ⟨b, off + (a + 3), none⟩) hbqd).trans HF3.out)
          have HNE := Lib.hid hne; have HNDI := Lib.hid hnd; clear hbl hne hnd
          refine wpAnyH_ready (rs := [26]) (by kernel_rfl) (by simp) (AllReadyH.cons rfl (fun K hK => ?_) AllReadyH.nil)
          go_simp
          refine hK.out _ _ ?_ (fun hHeld => ?_)
          · exact ⟨HG0.out, HG1.out, HG2.out, HG3.out, HCV.out _ HOK5.out⟩
          clear hK K
          try simp only [List.getElem_toArray, List.getElem_cons_succ, List.getElem_cons_zero, Act.put, List.setIfInBounds_toArray, List.set_cons_zero, List.set_cons_succ]
          refine wpAnyH_ready (rs := [27]) (by kernel_rfl) (by simp) (AllReadyH.cons rfl (fun K hK => ?_) AllReadyH.nil)
          refine appN_op _ (.tmp 62) (.tmp 88) rfl w.heap.size Try.underlying24 infoNd _ t rfl HOW5.out _ ⟨x0, strOfNums L, 256 * x1 + x2, decide (x3 = 1)⟩ _ rfl HNDI.out (by have := HTL.out; omega) HBW5.out.size ?_
          intro v6 w6 o6 g6
          have HBW6 := Lib.hid (HBW5.out.grown g6 HBW5.out.size (fun k hk => (HOW5.out.block k hk).1))
          have hlow : some b ≠ Value.ownBlock u5 := fun e => by have := (HOW5.out.block b e.symm).1; omega
          have HOK6 := Lib.hid (World.ownsRow.kept HOK5.out g6 HNE.out)
          have HH0 := Lib.hid (g6.cell HG0.out hlow)
          have HH1 := Lib.hid (g6.cell HG1.out hlow)
          have HH2 := Lib.hid (g6.cell HG2.out hlow)
          have HH3 := Lib.hid (g6.cell HG3.out hlow)
          have HO6 := Lib.hid o6; clear g6 o6 hlow
          refine hK.out _ _ ?_ (fun hHeld => ?_)
          · exact ⟨HH0.out, HH1.out, HH2.out, HH3.out, HCV.out _ HOK6.out⟩
          clear hK K
          try simp only [List.getElem_toArray, List.getElem_cons_succ, List.getElem_cons_zero, Act.put, List.setIfInBounds_toArray, List.set_cons_zero, List.set_cons_succ]
          refine wpAnyH_take (i := 28) (v := ?_) rfl (by kernel_rfl) (by kernel_rfl) (by kernel_rfl) (fun _ _ _ h => h) (Or.inl ⟨by rfl, ?_⟩) (by assumption) ?_
          rotate_left
          · (intro w hSw; (try dsimp only at hSw); go_simp; (try with_reducible rfl))
          try simp only [List.getElem_toArray, List.getElem_cons_succ, List.getElem_cons_zero, Act.put, List.setIfInBounds_toArray, List.set_cons_zero, List.set_cons_succ]
          refine wpAnyH_done (by kernel_rfl) ?_ _
          clear i0 i1 i2 i3 j1 j2 j3 t2 t3 wz1 wz2 wz3 wz4 wz5 hw5 hw4 hHeld
          go_wp2_with fail
          go_roundw
          case rel => exact ⟨k + 1, t ++ [(⟨x0, strOfNums L, 256 * x1 + x2, decide (x3 = 1)⟩ : Nd)], a + 5 + M, by omega, by rw [HJ2.out], by go_num, HND1.out, HO6.out, HBW6.out⟩
          case measure => simp [intOf]
    · have hkn : k = N := by omega
      have hF := HTAB.out t a (by rw [← hkn]; exact hnd.out)
      rw [hkn, Nat.sub_self]
      obtain ⟨ao2, cap2, e2, r2, l2, m2, -⟩ := HO.out.form
      subst e2
      have hm2 : cap2 ≤ 9223372036854775807 := by unfold maxLen at m2; omega
      have hsm : smallN t := fun i hi => by have := HSM.out _ _ hnd.out (ndOf t i) (ndOf_mem hi); omega
      have hall : t.length ≤ 1048576 := by have := HTL.out; omega
      have hcall := fun W (h : RdN W ao2 t.length t) => sIsTable_any ao2 t.length cap2 t W h l2 hm2 hsm
      have HCALL := Lib.hid hcall
      have hbd : Below wr.heap.size wr wr.drew := Below.drew (Below.refl _ _)
      have HRd := Lib.hid (r2.below hbd); have HOd := Lib.hid (HO.out.below hbd); have HBd := Lib.hid (below_two HB.out hbd)
      have hal2 : (a : Int) ≤ (cap : Int) := by omega
      have ha0 : (0 : Int) ≤ (a : Int) := by omega
      have HSMM := Lib.hid hsm; have HALL := Lib.hid hall; have HM2 := Lib.hid hm2
      clear hcall hbd r2 HO HB hsm hall hm2 m2 hnd HN1
      rcases ht : isTable t with _ | _
      · rw [if_neg (by rw [ht]; simp)] at hF
        have HF2 := Lib.hid hF; clear hF
        go_upto_region 17 with fail
        refine wp_region_held_drew (S := fun w' => True) (by kernel_rfl) (trivial) (fun hHeld => ?_)
        generalize wr.drew = wd at HRd HOd HBd ⊢
        refine wpAnyH_take (i := 0) (v := ?_) rfl (by kernel_rfl) (by kernel_rfl) (by kernel_rfl) (fun _ _ _ h => h) (Or.inl ⟨by rfl, ?_⟩) (by assumption) ?_
        rotate_left
        · (intro w hSw; (try dsimp only at hSw); go_simp; (try with_reducible rfl))
        try simp only [List.getElem_toArray, List.getElem_cons_succ, List.getElem_cons_zero, Act.put, List.setIfInBounds_toArray, List.set_cons_zero, List.set_cons_succ]
        refine wpAnyH_ready (rs := [1]) (by kernel_rfl) (by simp) (AllReadyH.cons rfl (fun K hK => ?_) AllReadyH.nil)
        go_simp
        refine (HCALL.out _ HRd.out).mono ?_
        rintro e w2 ⟨rfl, b2⟩
        rw [ht]
        have HB2 := Lib.hid (below_two HBd.out b2); clear b2
        go_wp2_with fail
        refine hK.out _ _ ?_ (fun hHeld => ?_)
        · exact trivial
        clear hK K
        try simp only [List.getElem_toArray, List.getElem_cons_succ, List.getElem_cons_zero, Act.put, List.setIfInBounds_toArray, List.set_cons_zero, List.set_cons_succ]
        refine wpAnyH_take (i := 2) (v := ?_) rfl (by kernel_rfl) (by kernel_rfl) (by kernel_rfl) (fun _ _ _ h => h) (Or.inl ⟨by rfl, ?_⟩) (by assumption) ?_
        rotate_left
        · (intro w hSw; (try dsimp only at hSw); go_simp; (try with_reducible rfl))
        try simp only [List.getElem_toArray, List.getElem_cons_succ, List.getElem_cons_zero, Act.put, List.setIfInBounds_toArray, List.set_cons_zero, List.set_cons_succ]
        refine wpAnyH_take (i := 3) (v := ?_) rfl (by kernel_rfl) (by kernel_rfl) (by kernel_rfl) (fun _ _ _ h => h) (Or.inl ⟨by rfl, ?_⟩) (by assumption) ?_
        rotate_left
        · (intro w hSw; (try dsimp only at hSw); go_simp; (try with_reducible rfl))
        try simp only [List.getElem_toArray, List.getElem_cons_succ, List.getElem_cons_zero, Act.put, List.setIfInBounds_toArray, List.set_cons_zero, List.set_cons_succ]
        refine wpAnyH_take (i := 4) (v := undef) rfl (by kernel_rfl) (by kernel_rfl) (by kernel_rfl) (fun _ _ _ h => h) (Or.inr ⟨by rfl, rfl⟩) (by assumption) ?_
        try simp only [List.getElem_toArray, List.getElem_cons_succ, List.getElem_cons_zero, Act.put, List.setIfInBounds_toArray, List.set_cons_zero, List.set_cons_succ]
        refine wpAnyH_take (i := 5) (v := undef) rfl (by kernel_rfl) (by kernel_rfl) (by kernel_rfl) (fun _ _ _ h => h) (Or.inr ⟨by rfl, rfl⟩) (by assumption) ?_
        try simp only [List.getElem_toArray, List.getElem_cons_succ, List.getElem_cons_zero, Act.put, List.setIfInBounds_toArray, List.set_cons_zero, List.set_cons_succ]
        refine wpAnyH_take (i := 6) (v := undef) rfl (by kernel_rfl) (by kernel_rfl) (by kernel_rfl) (fun _ _ _ h => h) (Or.inr ⟨by rfl, rfl⟩) (by assumption) ?_
        try simp only [List.getElem_toArray, List.getElem_cons_succ, List.getElem_cons_zero, Act.put, List.setIfInBounds_toArray, List.set_cons_zero, List.set_cons_succ]
        refine wpAnyH_take (i := 7) (v := undef) rfl (by kernel_rfl) (by kernel_rfl) (by kernel_rfl) (fun _ _ _ h => h) (Or.inr ⟨by rfl, rfl⟩) (by assumption) ?_
        try simp only [List.getElem_toArray, List.getElem_cons_succ, List.getElem_cons_zero, Act.put, List.setIfInBounds_toArray, List.set_cons_zero, List.set_cons_succ]
        refine wpAnyH_take (i := 8) (v := undef) rfl (by kernel_rfl) (by kernel_rfl) (by kernel_rfl) (fun _ _ _ h => h) (Or.inr ⟨by rfl, rfl⟩) (by assumption) ?_
        try simp only [List.getElem_toArray, List.getElem_cons_succ, List.getElem_cons_zero, Act.put, List.setIfInBounds_toArray, List.set_cons_zero, List.set_cons_succ]
        refine wpAnyH_take (i := 9) (v := undef) rfl (by kernel_rfl) (by kernel_rfl) (by kernel_rfl) (fun _ _ _ h => h) (Or.inr ⟨by rfl, rfl⟩) (by assumption) ?_
        try simp only [List.getElem_toArray, List.getElem_cons_succ, List.getElem_cons_zero, Act.put, List.setIfInBounds_toArray, List.set_cons_zero, List.set_cons_succ]
        refine wpAnyH_take (i := 10) (v := undef) rfl (by kernel_rfl) (by kernel_rfl) (by kernel_rfl) (fun _ _ _ h => h) (Or.inr ⟨by rfl, rfl⟩) (by assumption) ?_
        try simp only [List.getElem_toArray, List.getElem_cons_succ, List.getElem_cons_zero, Act.put, List.setIfInBounds_toArray, List.set_cons_zero, List.set_cons_succ]
        refine wpAnyH_take (i := 11) (v := ?_) rfl (by kernel_rfl) (by kernel_rfl) (by kernel_rfl) (fun _ _ _ h => h) (Or.inl ⟨by rfl, ?_⟩) (by assumption) ?_
        rotate_left
        · (intro w hSw; (try dsimp only at hSw); go_simp; (try with_reducible rfl))
        try simp only [List.getElem_toArray, List.getElem_cons_succ, List.getElem_cons_zero, Act.put, List.setIfInBounds_toArray, List.set_cons_zero, List.set_cons_succ]
        refine wpAnyH_done (by kernel_rfl) ?_ _
        go_wp2_with fail
        go_ret3
        rw [HF2.out]
        exact ⟨rfl, HB2.out⟩
      · have hby2 := fun W (h : RdN W ao2 t.length t) => l10Bytes_any ao2 t.length cap2 t W h HALL.out (okB_table ht)
        have HBY2 := Lib.hid hby2; clear hby2
        have htb := tabBytes_len ht
        have hcond : (isTable t = true ∧ tabBytes t = xs.take a) = (tabBytes t = xs.take a) := by rw [ht]; simp
        simp only [hcond] at hF
        clear hcond
        have HF := Lib.hid hF; clear hF
        rcases hsame : decide (tabBytes t = xs.take a) with _ | _
        · have hF := HF.out
          rw [if_neg (of_decide_eq_false hsame)] at hF
          have HF2 := Lib.hid hF; clear hF
          go_upto_region 17 with fail
          refine wp_region_held_drew (S := fun w' => True) (by kernel_rfl) (trivial) (fun hHeld => ?_)
          generalize wr.drew = wd at HRd HOd HBd ⊢
          refine wpAnyH_take (i := 0) (v := ?_) rfl (by kernel_rfl) (by kernel_rfl) (by kernel_rfl) (fun _ _ _ h => h) (Or.inl ⟨by rfl, ?_⟩) (by assumption) ?_
          rotate_left
          · (intro w hSw; (try dsimp only at hSw); go_simp; (try with_reducible rfl))
          try simp only [List.getElem_toArray, List.getElem_cons_succ, List.getElem_cons_zero, Act.put, List.setIfInBounds_toArray, List.set_cons_zero, List.set_cons_succ]
          refine wpAnyH_ready (rs := [1]) (by kernel_rfl) (by simp) (AllReadyH.cons rfl (fun K hK => ?_) AllReadyH.nil)
          go_simp
          refine (HCALL.out _ HRd.out).mono ?_
          rintro e w2 ⟨rfl, b2⟩
          rw [ht]
          have HB2 := Lib.hid (below_two HBd.out b2); have HR2 := Lib.hid (HRd.out.below b2); have HO2 := Lib.hid (HOd.out.below b2); clear b2
          go_wp2_with fail
          refine hK.out _ _ ?_ (fun hHeld => ?_)
          · exact trivial
          clear hK K
          try simp only [List.getElem_toArray, List.getElem_cons_succ, List.getElem_cons_zero, Act.put, List.setIfInBounds_toArray, List.set_cons_zero, List.set_cons_succ]
          refine wpAnyH_take (i := 2) (v := ?_) rfl (by kernel_rfl) (by kernel_rfl) (by kernel_rfl) (fun _ _ _ h => h) (Or.inl ⟨by rfl, ?_⟩) (by assumption) ?_
          rotate_left
          · (intro w hSw; (try dsimp only at hSw); go_simp; (try with_reducible rfl))
          try simp only [List.getElem_toArray, List.getElem_cons_succ, List.getElem_cons_zero, Act.put, List.setIfInBounds_toArray, List.set_cons_zero, List.set_cons_succ]
          refine wpAnyH_take (i := 3) (v := ?_) rfl (by kernel_rfl) (by kernel_rfl) (by kernel_rfl) (fun _ _ _ h => h) (Or.inl ⟨by rfl, ?_⟩) (by assumption) ?_
          rotate_left
          · (intro w hSw; (try dsimp only at hSw); go_simp; (try with_reducible rfl))
          try simp only [List.getElem_toArray, List.getElem_cons_succ, List.getElem_cons_zero, Act.put, List.setIfInBounds_toArray, List.set_cons_zero, List.set_cons_succ]
          refine wpAnyH_take (i := 4) (v := ?_) rfl (by kernel_rfl) (by kernel_rfl) (by kernel_rfl) (fun _ _ _ h => h) (Or.inl ⟨by rfl, ?_⟩) (by assumption) ?_
          rotate_left
          · (intro w hSw; (try dsimp only at hSw); go_simp; (try with_reducible rfl))
          try simp only [List.getElem_toArray, List.getElem_cons_succ, List.getElem_cons_zero, Act.put, List.setIfInBounds_toArray, List.set_cons_zero, List.set_cons_succ]
          refine wpAnyH_take (i := 6) (v := ?_) rfl (by kernel_rfl) (by kernel_rfl) (by kernel_rfl) (fun _ _ _ h => h) (Or.inl ⟨by rfl, ?_⟩) (by assumption) ?_
          rotate_left
          · (intro w hSw; (try dsimp only at hSw); go_simp; (try with_reducible rfl))
          try simp only [List.getElem_toArray, List.getElem_cons_succ, List.getElem_cons_zero, Act.put, List.setIfInBounds_toArray, List.set_cons_zero, List.set_cons_succ]
          refine wpAnyH_take (i := 7) (v := ?_) rfl (by kernel_rfl) (by kernel_rfl) (by kernel_rfl) (fun _ _ _ h => h) (Or.inl ⟨by rfl, ?_⟩) (by assumption) ?_
          rotate_left
          · (intro w hSw; (try dsimp only at hSw); go_simp; (try with_reducible rfl))
          try simp only [List.getElem_toArray, List.getElem_cons_succ, List.getElem_cons_zero, Act.put, List.setIfInBounds_toArray, List.set_cons_zero, List.set_cons_succ]
          refine wpAnyH_take (i := 8) (v := ?_) rfl (by kernel_rfl) (by kernel_rfl) (by kernel_rfl) (fun _ _ _ h => h) (Or.inl ⟨by rfl, ?_⟩) (by assumption) ?_
          rotate_left
          · (intro w hSw; (try dsimp only at hSw); go_simp; (try with_reducible rfl))
          try simp only [List.getElem_toArray, List.getElem_cons_succ, List.getElem_cons_zero, Act.put, List.setIfInBounds_toArray, List.set_cons_zero, List.set_cons_succ]
          refine wpAnyH_ready (rs := [5]) (by kernel_rfl) (by simp) (AllReadyH.cons rfl (fun K hK => ?_) AllReadyH.nil)
          go_simp
          refine (HBY2.out _ HR2.out).mono ?_
          rintro e w3 m3
          obtain ⟨p3, c3, rfl, o3, r3, b3⟩ := m3.get
          have HB3 := Lib.hid (below_two HB2.out b3); have HO3 := Lib.hid (HO2.out.below b3); have HR3 := Lib.hid r3
          have hL3 : Rd w3 (some ⟨b, off, none⟩) a (xs.take a) := ⟨by rw [List.length_take, HLEN.out]; omega, fun _ => ⟨b, off, rfl, fun i hi => by rw [(HB3.out.cell (p := ⟨b, off + i, none⟩) hblt).trans (HCE.out i (by omega))]; simp [List.getD, hi]⟩⟩
          have HL3 := Lib.hid hL3; clear m3 o3 r3 b3 hL3
          go_wp2_with fail
          refine hK.out _ _ ?_ (fun hHeld => ?_)
          · exact trivial
          clear hK K
          try simp only [List.getElem_toArray, List.getElem_cons_succ, List.getElem_cons_zero, Act.put, List.setIfInBounds_toArray, List.set_cons_zero, List.set_cons_succ]
          refine wpAnyH_ready (rs := [9]) (by kernel_rfl) (by simp) (AllReadyH.cons rfl (fun K hK => ?_) AllReadyH.nil)
          go_simp
          refine (same_any _ _ _ _ _ _ _ _ _ HR3.out HL3.out (by omega) (by omega)).mono ?_
          rintro e w4 ⟨rfl, q4, rfl⟩
          rw [hsame]
          go_wp2_with fail
          refine hK.out _ _ ?_ (fun hHeld => ?_)
          · exact trivial
          clear hK K
          try simp only [List.getElem_toArray, List.getElem_cons_succ, List.getElem_cons_zero, Act.put, List.setIfInBounds_toArray, List.set_cons_zero, List.set_cons_succ]
          refine wpAnyH_take (i := 10) (v := ?_) rfl (by kernel_rfl) (by kernel_rfl) (by kernel_rfl) (fun _ _ _ h => h) (Or.inl ⟨by rfl, ?_⟩) (by assumption) ?_
          rotate_left
          · (intro w hSw; (try dsimp only at hSw); go_simp; (try with_reducible rfl))
          try simp only [List.getElem_toArray, List.getElem_cons_succ, List.getElem_cons_zero, Act.put, List.setIfInBounds_toArray, List.set_cons_zero, List.set_cons_succ]
          refine wpAnyH_take (i := 11) (v := ?_) rfl (by kernel_rfl) (by kernel_rfl) (by kernel_rfl) (fun _ _ _ h => h) (Or.inl ⟨by rfl, ?_⟩) (by assumption) ?_
          rotate_left
          · (intro w hSw; (try dsimp only at hSw); go_simp; (try with_reducible rfl))
          try simp only [List.getElem_toArray, List.getElem_cons_succ, List.getElem_cons_zero, Act.put, List.setIfInBounds_toArray, List.set_cons_zero, List.set_cons_succ]
          refine wpAnyH_done (by kernel_rfl) ?_ _
          go_wp2_with fail
          go_ret3
          rw [HF2.out]
          exact ⟨rfl, below_drewN' HB3.out _⟩
        · have hF := HF.out
          rw [if_pos (of_decide_eq_true hsame)] at hF
          have HF2 := Lib.hid hF; clear hF
          go_upto_region 17 with fail
          refine wp_region_held_drew (S := fun w' => True) (by kernel_rfl) (trivial) (fun hHeld => ?_)
          generalize wr.drew = wd at HRd HOd HBd ⊢
          refine wpAnyH_take (i := 0) (v := ?_) rfl (by kernel_rfl) (by kernel_rfl) (by kernel_rfl) (fun _ _ _ h => h) (Or.inl ⟨by rfl, ?_⟩) (by assumption) ?_
          rotate_left
          · (intro w hSw; (try dsimp only at hSw); go_simp; (try with_reducible rfl))
          try simp only [List.getElem_toArray, List.getElem_cons_succ, List.getElem_cons_zero, Act.put, List.setIfInBounds_toArray, List.set_cons_zero, List.set_cons_succ]
          refine wpAnyH_ready (rs := [1]) (by kernel_rfl) (by simp) (AllReadyH.cons rfl (fun K hK => ?_) AllReadyH.nil)
          go_simp
          refine (HCALL.out _ HRd.out).mono ?_
          rintro e w2 ⟨rfl, b2⟩
          rw [ht]
          have HB2 := Lib.hid (below_two HBd.out b2); have HR2 := Lib.hid (HRd.out.below b2); have HO2 := Lib.hid (HOd.out.below b2); clear b2
          go_wp2_with fail
          refine hK.out _ _ ?_ (fun hHeld => ?_)
          · exact trivial
          clear hK K
          try simp only [List.getElem_toArray, List.getElem_cons_succ, List.getElem_cons_zero, Act.put, List.setIfInBounds_toArray, List.set_cons_zero, List.set_cons_succ]
          refine wpAnyH_take (i := 2) (v := ?_) rfl (by kernel_rfl) (by kernel_rfl) (by kernel_rfl) (fun _ _ _ h => h) (Or.inl ⟨by rfl, ?_⟩) (by assumption) ?_
          rotate_left
          · (intro w hSw; (try dsimp only at hSw); go_simp; (try with_reducible rfl))
          try simp only [List.getElem_toArray, List.getElem_cons_succ, List.getElem_cons_zero, Act.put, List.setIfInBounds_toArray, List.set_cons_zero, List.set_cons_succ]
          refine wpAnyH_take (i := 3) (v := ?_) rfl (by kernel_rfl) (by kernel_rfl) (by kernel_rfl) (fun _ _ _ h => h) (Or.inl ⟨by rfl, ?_⟩) (by assumption) ?_
          rotate_left
          · (intro w hSw; (try dsimp only at hSw); go_simp; (try with_reducible rfl))
          try simp only [List.getElem_toArray, List.getElem_cons_succ, List.getElem_cons_zero, Act.put, List.setIfInBounds_toArray, List.set_cons_zero, List.set_cons_succ]
          refine wpAnyH_take (i := 4) (v := ?_) rfl (by kernel_rfl) (by kernel_rfl) (by kernel_rfl) (fun _ _ _ h => h) (Or.inl ⟨by rfl, ?_⟩) (by assumption) ?_
          rotate_left
          · (intro w hSw; (try dsimp only at hSw); go_simp; (try with_reducible rfl))
          try simp only [List.getElem_toArray, List.getElem_cons_succ, List.getElem_cons_zero, Act.put, List.setIfInBounds_toArray, List.set_cons_zero, List.set_cons_succ]
          refine wpAnyH_take (i := 6) (v := ?_) rfl (by kernel_rfl) (by kernel_rfl) (by kernel_rfl) (fun _ _ _ h => h) (Or.inl ⟨by rfl, ?_⟩) (by assumption) ?_
          rotate_left
          · (intro w hSw; (try dsimp only at hSw); go_simp; (try with_reducible rfl))
          try simp only [List.getElem_toArray, List.getElem_cons_succ, List.getElem_cons_zero, Act.put, List.setIfInBounds_toArray, List.set_cons_zero, List.set_cons_succ]
          refine wpAnyH_take (i := 7) (v := ?_) rfl (by kernel_rfl) (by kernel_rfl) (by kernel_rfl) (fun _ _ _ h => h) (Or.inl ⟨by rfl, ?_⟩) (by assumption) ?_
          rotate_left
          · (intro w hSw; (try dsimp only at hSw); go_simp; (try with_reducible rfl))
          try simp only [List.getElem_toArray, List.getElem_cons_succ, List.getElem_cons_zero, Act.put, List.setIfInBounds_toArray, List.set_cons_zero, List.set_cons_succ]
          refine wpAnyH_take (i := 8) (v := ?_) rfl (by kernel_rfl) (by kernel_rfl) (by kernel_rfl) (fun _ _ _ h => h) (Or.inl ⟨by rfl, ?_⟩) (by assumption) ?_
          rotate_left
          · (intro w hSw; (try dsimp only at hSw); go_simp; (try with_reducible rfl))
          try simp only [List.getElem_toArray, List.getElem_cons_succ, List.getElem_cons_zero, Act.put, List.setIfInBounds_toArray, List.set_cons_zero, List.set_cons_succ]
          refine wpAnyH_ready (rs := [5]) (by kernel_rfl) (by simp) (AllReadyH.cons rfl (fun K hK => ?_) AllReadyH.nil)
          go_simp
          refine (HBY2.out _ HR2.out).mono ?_
          rintro e w3 m3
          obtain ⟨p3, c3, rfl, o3, r3, b3⟩ := m3.get
          have HB3 := Lib.hid (below_two HB2.out b3); have HO3 := Lib.hid (HO2.out.below b3); have HR3 := Lib.hid r3
          have hL3 : Rd w3 (some ⟨b, off, none⟩) a (xs.take a) := ⟨by rw [List.length_take, HLEN.out]; omega, fun _ => ⟨b, off, rfl, fun i hi => by rw [(HB3.out.cell (p := ⟨b, off + i, none⟩) hblt).trans (HCE.out i (by omega))]; simp [List.getD, hi]⟩⟩
          have HL3 := Lib.hid hL3; clear m3 o3 r3 b3 hL3
          go_wp2_with fail
          refine hK.out _ _ ?_ (fun hHeld => ?_)
          · exact trivial
          clear hK K
          try simp only [List.getElem_toArray, List.getElem_cons_succ, List.getElem_cons_zero, Act.put, List.setIfInBounds_toArray, List.set_cons_zero, List.set_cons_succ]
          refine wpAnyH_ready (rs := [9]) (by kernel_rfl) (by simp) (AllReadyH.cons rfl (fun K hK => ?_) AllReadyH.nil)
          go_simp
          refine (same_any _ _ _ _ _ _ _ _ _ HR3.out HL3.out (by omega) (by omega)).mono ?_
          rintro e w4 ⟨rfl, q4, rfl⟩
          rw [hsame]
          go_wp2_with fail
          refine hK.out _ _ ?_ (fun hHeld => ?_)
          · exact trivial
          clear hK K
          try simp only [List.getElem_toArray, List.getElem_cons_succ, List.getElem_cons_zero, Act.put, List.setIfInBounds_toArray, List.set_cons_zero, List.set_cons_succ]
          refine wpAnyH_take (i := 10) (v := ?_) rfl (by kernel_rfl) (by kernel_rfl) (by kernel_rfl) (fun _ _ _ h => h) (Or.inl ⟨by rfl, ?_⟩) (by assumption) ?_
          rotate_left
          · (intro w hSw; (try dsimp only at hSw); go_simp; (try with_reducible rfl))
          try simp only [List.getElem_toArray, List.getElem_cons_succ, List.getElem_cons_zero, Act.put, List.setIfInBounds_toArray, List.set_cons_zero, List.set_cons_succ]
          refine wpAnyH_take (i := 11) (v := ?_) rfl (by kernel_rfl) (by kernel_rfl) (by kernel_rfl) (fun _ _ _ h => h) (Or.inl ⟨by rfl, ?_⟩) (by assumption) ?_
          rotate_left
          · (intro w hSw; (try dsimp only at hSw); go_simp; (try with_reducible rfl))
          try simp only [List.getElem_toArray, List.getElem_cons_succ, List.getElem_cons_zero, Act.put, List.setIfInBounds_toArray, List.set_cons_zero, List.set_cons_succ]
          refine wpAnyH_done (by kernel_rfl) ?_ _
          go_wp2_with fail
          go_ret3
          rw [HF2.out]
          exact ⟨_, rfl, HO3.out.below (below_drewN' (Below.refl _ _) _), below_drewN' HB3.out _⟩
/-- spec.ReadNodeTable. -/
theorem sReadNodeTable_any (ao : Option Addr) (n cap : Nat) (xs : List Int) (w : World) (hr : Rd w ao n xs) (hn : n ≤ 1048576) (hcap : n ≤ cap) (hcap2 : cap ≤ 9223372036854775807) :
    Calls Try.prog 15 #[.slice ao n cap] w (MakesN3 59 w (readNodeTable xs).1 (readNodeTable xs).2.1 (readNodeTable xs).2.2) := by
  have HIB := Lib.hid (sIsBytes_any ao n cap xs w hr (by omega))
  rcases hby : isBytes xs with _ | _
  · have HF := Lib.hid (rt_range hby)
    rw [HF.out]
    clear hr
    go_enter Try.func15, Try.ntmps15
    go_wp2_with fail
    refine HIB.out.mono ?_
    rintro e w' ⟨rfl, rfl⟩
    rw [hby]
    go_wp2_with fail
    go_ret3
    exact ⟨_, rfl, OwnN.nil_, Below.refl _ _⟩
  have hin := (isBytes_iff.1 hby).2
  have HC := Lib.hid (l10Read_any ao n cap xs w hr hn hcap hcap2 hin)
  clear hr hin
  rcases hp : readTab xs with _ | ⟨t, a⟩
  · have HF := Lib.hid (rt_none hby hp)
    rw [HF.out]
    go_enter Try.func15, Try.ntmps15
    go_wp2_with fail
    refine HIB.out.mono ?_
    rintro e w' ⟨rfl, rfl⟩
    rw [hby]
    go_wp2_with fail
    refine HC.out.mono ?_
    rintro e w1 hg
    rw [hp] at hg
    obtain ⟨rfl, b1⟩ := hg
    go_wp2_with fail
    go_ret3
    exact ⟨_, rfl, OwnN.nil_, b1⟩
  · have HF := Lib.hid (rt_some hby hp)
    rw [HF.out]
    go_enter Try.func15, Try.ntmps15
    go_wp2_with fail
    refine HIB.out.mono ?_
    rintro e w' ⟨rfl, rfl⟩
    rw [hby]
    go_wp2_with fail
    refine HC.out.mono ?_
    rintro e w1 hg
    rw [hp] at hg
    obtain ⟨v, rfl, o1, b1⟩ := hg
    have O1 := Lib.hid o1; clear o1
    go_wp2_with fail
    go_ret3
    exact ⟨_, rfl, O1.out, b1⟩
end Go.Proofs.Ytpedlofckbplmaa
