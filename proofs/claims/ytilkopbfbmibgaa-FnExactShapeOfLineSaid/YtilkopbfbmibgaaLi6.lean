/-
  Chapter 18: the model's l18Parse, l18Line, BytesOfLine, ShapeOfLine, IsLine, DataCells.
-/
import Derived.Test.YtilkopbfbmibgaaLi5
namespace Go.Proofs.Ytilkopbfbmibgaa
open Go.RowKit

def parsed (xs : List Int) : Int × Int × List Int × Bool := match parseL xs with | none => (0, 0, [], false) | some (i, p, d) => ((i : Int), (p : Int), d, true)
def GivesP (E : Nat) (w : World) (q : Int × Int × List Int × Bool) (e : Ending) (w' : World) : Prop :=
  ∃ v, e = .returned (.tuple #[.int .i64 q.1, .int .i64 q.2.1, v, .bool q.2.2.2]) ∧ Own E w' w.heap.size v q.2.2.1 ∧ Below w.heap.size w w'
section
variable {xs ds : List Int} {i p a : Nat}
theorem pd_a (hi : runL 1 xs = i) (hp : runL 0 (xs.drop i) = p) (h : isPre (p : Int) = false) : parsed xs = (0, 0, [], false) := by
  unfold parsed parseL; rw [if_neg (by subst hi; subst hp; rw [h]; simp)]
theorem pd_b (hi : runL 1 xs = i) (hp : runL 0 (xs.drop i) = p) (h : ¬ i + p < xs.length) : parsed xs = (0, 0, [], false) := by
  unfold parsed parseL; rw [if_neg (by subst hi; subst hp; exact fun h2 => h h2.2.1)]
theorem pd_c (hi : runL 1 xs = i) (hp : runL 0 (xs.drop i) = p) (ht : takeBytes (xs.drop (i + p + 1)) = (ds, xs.drop a)) (h : ¬ (2 ≤ xs.length - a ∧ xs.getD a 1 = 0 ∧ runL 1 (xs.drop (a + 1)) = xs.length - a - 1)) : parsed xs = (0, 0, [], false) := by
  unfold parsed parseL; rw [if_neg (by subst hi; subst hp; rw [ht]; intro h2; refine h ?_; have h3 := h2.2.2; simpa [List.length_drop, List.drop_drop, List.getD, List.getElem?_drop] using h3)]
theorem pd_0 (hi : runL 1 xs = i) (hp : runL 0 (xs.drop i) = p) (h1 : isPre (p : Int) = true) (h2 : i + p < xs.length) (ht : takeBytes (xs.drop (i + p + 1)) = (ds, xs.drop a)) (h : 2 ≤ xs.length - a ∧ xs.getD a 1 = 0 ∧ runL 1 (xs.drop (a + 1)) = xs.length - a - 1) : parsed xs = ((i : Int), (p : Int), ds, true) := by
  unfold parsed parseL; rw [if_pos (by subst hi; subst hp; rw [ht]; exact ⟨h1, h2, by simpa [List.length_drop, List.drop_drop, List.getD, List.getElem?_drop] using h⟩)]
  subst hi; subst hp; rw [ht]
theorem getD_in {k : Nat} {u v : Int} (h : k < xs.length) : xs.getD k u = xs.getD k v := by simp [List.getD, List.getElem?_eq_getElem h]
theorem line_parsed (hb : isBits xs = true) : lineOf xs = (((parsed xs).1, (parsed xs).2.1, (parsed xs).2.2.1), if (parsed xs).2.2.2 = true then 0 else 6) := by
  unfold lineOf parsed; rw [if_neg (by rw [hb]; simp)]
  cases parseL xs with
  | none => rfl
  | some q => rfl
theorem drop_get : (xs.drop a).getD 0 0 = xs.getD a 0 := by simp [List.getD, List.getElem?_drop]
theorem drop_get1 : (xs.drop a).getD 1 0 = xs.getD (a + 1) 0 := by simp [List.getD, List.getElem?_drop]
end

set_option maxRecDepth 100000 in
set_option maxHeartbeats 2000000 in
theorem l18Parse_any (ao : Option Addr) (n cap : Nat) (xs : List Int) (w : World) (hr : Rd w ao n xs) (hn : n ≤ 1048576) (hbits : ∀ x ∈ xs, 0 ≤ x ∧ x ≤ 1) :
    Calls Try.prog 73 #[.slice ao n cap] w (GivesP 2 w (parsed xs)) := by
  have HR := Lib.hid hr
  have HL := Lib.hid hr.len
  have HZ := Lib.hid hbits
  obtain ⟨i, hi⟩ : ∃ i, runL 1 xs = i := ⟨_, rfl⟩
  obtain ⟨p, hp⟩ : ∃ p, runL 0 (xs.drop i) = p := ⟨_, rfl⟩
  have hin : i ≤ n := by have := runL_le 1 xs; rw [HL.out] at this; omega
  have hpn : i + p ≤ n := by have := runL_le 0 (xs.drop i); rw [List.length_drop, HL.out] at this; omega
  have HI := Lib.hid (show runL 1 (xs.drop 0) = i from hi); have HP := Lib.hid hp; have HI0 := Lib.hid hi
  clear hi hp hr hbits
  have HRUN1 := Lib.hid (fun (W : World) (h : Rd W ao n xs) => l18Run_any ao n cap xs 0 1 W h hn (by omega))
  have HRUN2 := Lib.hid (fun (W : World) (h : Rd W ao n xs) => l18Run_any ao n cap xs i 0 W h hn (by omega))
  rw [HI.out] at HRUN1; rw [HP.out] at HRUN2
  rcases hpre : isPre (p : Int) with _ | _
  · have HPRE := Lib.hid hpre
    rw [pd_a HI0.out HP.out hpre]; clear hpre
    go_enter Try.func73, Try.ntmps73
    go_upto_region 2 with (go_at_call 77; refine (HRUN1.out _ HR.out).mono ?_; rintro e w' ⟨rfl, rfl⟩)
    go_upto_region 3 with (go_at_call 77; refine (HRUN2.out _ HR.out).mono ?_; rintro e w' ⟨rfl, rfl⟩)
    go_wp2_with (go_at_call 48; refine (sPreamble_any _ _).mono ?_; rintro e w' ⟨rfl, rfl⟩; rw [HPRE.out])
    exact bodyPost_ret (v := .tuple #[.int .i64 0, .int .i64 0, .slice none 0 0, .bool false]) (by simp [results, Try.results73, go_sem]) rfl ⟨_, rfl, Own.nil_, Below.refl _ _⟩
  by_cases hlt : i + p < n
  rotate_left
  · have HPRE := Lib.hid hpre
    rw [pd_b HI0.out HP.out (by rw [HL.out]; exact hlt)]; clear hpre
    go_enter Try.func73, Try.ntmps73
    go_upto_region 2 with (go_at_call 77; refine (HRUN1.out _ HR.out).mono ?_; rintro e w' ⟨rfl, rfl⟩)
    go_upto_region 3 with (go_at_call 77; refine (HRUN2.out _ HR.out).mono ?_; rintro e w' ⟨rfl, rfl⟩)
    go_wp2_with (go_at_call 48; refine (sPreamble_any _ _).mono ?_; rintro e w' ⟨rfl, rfl⟩; rw [HPRE.out])
    exact bodyPost_ret (v := .tuple #[.int .i64 0, .int .i64 0, .slice none 0 0, .bool false]) (by simp [results, Try.results73, go_sem]) rfl ⟨_, rfl, Own.nil_, Below.refl _ _⟩
  have HPRE := Lib.hid hpre; clear hpre
  go_enter Try.func73, Try.ntmps73
  go_upto_region 2 with (go_at_call 77; refine (HRUN1.out _ HR.out).mono ?_; rintro e w' ⟨rfl, rfl⟩)
  go_upto_region 3 with (go_at_call 77; refine (HRUN2.out _ HR.out).mono ?_; rintro e w' ⟨rfl, rfl⟩)
  go_upto_region 9 with (go_at_call 48; refine (sPreamble_any _ _).mono ?_; rintro e w' ⟨rfl, rfl⟩; rw [HPRE.out])
  go_loopw [8, 10] (fun at_ v wr => ∃ (a : Nat) (ds : List Int), at_ = .int .i64 a ∧ a ≤ n ∧ ds.length ≤ n ∧ 10 * ds.length ≤ a ∧ Hid (takeBytes (xs.drop (i + p + 1)) = (ds ++ (takeBytes (xs.drop a)).1, (takeBytes (xs.drop a)).2)) ∧ Hid (Own 2 wr w.heap.size v ds) ∧ Hid (Below w.heap.size w wr)) (fun at_ _ _ => n - (intOf at_).toNat)
  case atStart => exact ⟨i + p + 1, [], by simp, by omega, by simp, by simp, Lib.hid (by simp), Lib.hid (Own.of_alloc_nil (Nat.le_refl _)), Lib.hid ((Below.refl _ _).alloc (Nat.le_refl _) _)⟩
  case round =>
    obtain ⟨a, ds, rfl, han, hds, hda, HT, HO, HB⟩ := hrel
    have HRW := Lib.hid (HR.out.below HB.out)
    by_cases h10 : a + 10 ≤ n
    · obtain ⟨b, off, rfl, hc⟩ := HRW.out.here (by omega)
      have hca := hc a (by omega)
      have hcb := hc (a + 1) (by omega)
      have hba := HZ.out _ (getD_mem (xs := xs) (k := a) (by rw [HL.out]; omega))
      have hbb := HZ.out _ (getD_mem (xs := xs) (k := a + 1) (by rw [HL.out]; omega))
      clear hc
      by_cases e1 : xs.getD a 0 = 1
      · by_cases e2 : xs.getD (a + 1) 0 = 0
        · -- one byte more
          have hcond : 10 ≤ (xs.drop a).length ∧ (xs.drop a).getD 0 0 = 1 ∧ (xs.drop a).getD 1 0 = 0 := ⟨by rw [List.length_drop, HL.out]; omega, by rw [drop_get]; exact e1, by rw [drop_get1]; exact e2⟩
          have HT2 := takeBytes_acc HT.out hcond
          rw [List.drop_drop, List.drop_drop] at HT2
          replace HT2 := Lib.hid HT2
          rw [e1] at hca; rw [e2] at hcb
          clear HT hcond e1 e2 hba hbb
          have hdl : ds.length ≤ 4294967296 := by omega
          have hbs := HB.out.size
          go_wp2_with (first
            | (go_at_call 78; refine (l01Number_any _ n cap xs (a + 2) 8 _ HRW.out (by omega) (by omega) (by omega) HZ.out).mono ?_; rintro e w' ⟨rfl, rfl⟩)
            | (at_builtin; refine append_one _ rfl (.tmp 51) (.tmp 56) rfl w.heap.size Try.underlying24 info64 _ _ rfl (HO.out.below ((Below.refl _ _).alloc (Nat.le_refl _) _)) _ _ _ rfl (new_cell rfl) hdl (by simp; omega) ?_; intro v2 w2 o2 b2))
          go_roundw
          case rel => exact ⟨a + 10, ds ++ [numOf ((xs.drop (a + 2)).take 8)], by go_num, by omega, by simp; omega, by simp; omega, HT2, Lib.hid o2, Lib.hid ((HB.out.alloc (by omega) _).trans b2)⟩
          case measure => simp [intOf]; omega
        · have hstop : takeBytes (xs.drop a) = ([], xs.drop a) := takeBytes_stop (by rintro ⟨-, -, h⟩; rw [drop_get1] at h; exact e2 h)
          have HT2 := Lib.hid (HT.out.trans (by rw [hstop, List.append_nil])); clear HT hstop
          have hz := pd_c HI0.out HP.out HT2.out (fun h => by have h2 := h.2.1; rw [getD_in (v := 0) (by rw [HL.out]; omega), e1] at h2; omega)
          have e2' : xs.getD (a + 1) 0 = 1 := by omega
          have HZ0 := Lib.hid hz
          rw [e1] at hca; rw [e2'] at hcb
          clear hz e1 e2 e2' hba hbb
          go_wp2
          exact bodyPost_ret (v := .tuple #[.int .i64 0, .int .i64 0, .slice none 0 0, .bool false]) (by simp [results, Try.results73, go_sem]) rfl (by rw [HZ0.out]; exact ⟨_, rfl, Own.nil_, HB.out⟩)
      · have e1' : xs.getD a 0 = 0 := by omega
        have hstop : takeBytes (xs.drop a) = ([], xs.drop a) := takeBytes_stop (by rintro ⟨-, h, -⟩; rw [drop_get] at h; exact e1 h)
        have HT2 := Lib.hid (HT.out.trans (by rw [hstop, List.append_nil])); clear HT hstop
        have HRUN3 := Lib.hid (fun (W : World) (h : Rd W (some ⟨b, off, none⟩) n xs) => l18Run_any (some ⟨b, off, none⟩) n cap xs (a + 1) 1 W h hn (by omega))
        obtain ⟨q, hq⟩ : ∃ q, runL 1 (xs.drop (a + 1)) = q := ⟨_, rfl⟩
        rw [hq] at HRUN3
        have he : xs.getD a 1 = 0 := by rw [getD_in (v := 0) (by rw [HL.out]; omega)]; exact e1'
        rw [e1'] at hca
        clear e1 e1' hba
        have hw1 : IntKind.i64.wrap ((n : Int) - (a : Int)) = (n : Int) - (a : Int) := by rw [IntKind.wrap_i64]; omega
        have hw2 : IntKind.i64.wrap ((n : Int) - (a : Int) - 1) = (n : Int) - (a : Int) - 1 := by rw [IntKind.wrap_i64]; omega
        by_cases hqq : q = n - a - 1
        · have hd : ((q : Int) != (n : Int) - (a : Int) - 1) = false := by simp; omega
          have hz := pd_0 HI0.out HP.out HPRE.out (by rw [HL.out]; exact hlt) HT2.out ⟨by rw [HL.out]; omega, he, by rw [HL.out, hq]; exact hqq⟩
          have HZ0 := Lib.hid hz
          clear hz he hq hqq
          go_wp2_with (go_at_call 77; refine (HRUN3.out _ HRW.out).mono ?_; rintro e w' ⟨rfl, rfl⟩)
          obtain ⟨av, cv, rfl, O2, -⟩ := HO.out.get
          exact bodyPost_ret (v := .tuple #[.int .i64 i, .int .i64 p, .slice av ds.length cv, .bool true]) (by simp [results, Try.results73, go_sem]) rfl (by rw [HZ0.out]; exact ⟨_, rfl, O2, HB.out⟩)
        · have hd : ((q : Int) != (n : Int) - (a : Int) - 1) = true := by simp; omega
          have hz := pd_c HI0.out HP.out HT2.out (fun h => by have h2 := h.2.2; rw [HL.out, hq] at h2; exact hqq h2)
          have HZ0 := Lib.hid hz
          clear hz he hq hqq
          go_wp2_with (go_at_call 77; refine (HRUN3.out _ HRW.out).mono ?_; rintro e w' ⟨rfl, rfl⟩)
          exact bodyPost_ret (v := .tuple #[.int .i64 0, .int .i64 0, .slice none 0 0, .bool false]) (by simp [results, Try.results73, go_sem]) rfl (by rw [HZ0.out]; exact ⟨_, rfl, Own.nil_, HB.out⟩)
    · have hstop : takeBytes (xs.drop a) = ([], xs.drop a) := takeBytes_stop (by rintro ⟨h, -, -⟩; rw [List.length_drop, HL.out] at h; omega)
      have HT2 := Lib.hid (HT.out.trans (by rw [hstop, List.append_nil])); clear HT hstop
      by_cases h2 : a + 2 ≤ n
      · obtain ⟨b, off, rfl, hc⟩ := HRW.out.here (by omega)
        have hca := hc a (by omega)
        have hba := HZ.out _ (getD_mem (xs := xs) (k := a) (by rw [HL.out]; omega))
        clear hc
        by_cases e1 : xs.getD a 0 = 1
        · have hz := pd_c HI0.out HP.out HT2.out (fun h => by have h2 := h.2.1; rw [getD_in (v := 0) (by rw [HL.out]; omega), e1] at h2; omega)
          have HZ0 := Lib.hid hz
          rw [e1] at hca
          clear hz e1 hba
          go_wp2
          exact bodyPost_ret (v := .tuple #[.int .i64 0, .int .i64 0, .slice none 0 0, .bool false]) (by simp [results, Try.results73, go_sem]) rfl (by rw [HZ0.out]; exact ⟨_, rfl, Own.nil_, HB.out⟩)
        · have e1' : xs.getD a 0 = 0 := by omega
          have HRUN3 := Lib.hid (fun (W : World) (h : Rd W (some ⟨b, off, none⟩) n xs) => l18Run_any (some ⟨b, off, none⟩) n cap xs (a + 1) 1 W h hn (by omega))
          obtain ⟨q, hq⟩ : ∃ q, runL 1 (xs.drop (a + 1)) = q := ⟨_, rfl⟩
          rw [hq] at HRUN3
          have he : xs.getD a 1 = 0 := by rw [getD_in (v := 0) (by rw [HL.out]; omega)]; exact e1'
          rw [e1'] at hca
          clear e1 e1' hba
          have hw1 : IntKind.i64.wrap ((n : Int) - (a : Int)) = (n : Int) - (a : Int) := by rw [IntKind.wrap_i64]; omega
          have hw2 : IntKind.i64.wrap ((n : Int) - (a : Int) - 1) = (n : Int) - (a : Int) - 1 := by rw [IntKind.wrap_i64]; omega
          by_cases hqq : q = n - a - 1
          · have hd : ((q : Int) != (n : Int) - (a : Int) - 1) = false := by simp; omega
            have hz := pd_0 HI0.out HP.out HPRE.out (by rw [HL.out]; exact hlt) HT2.out ⟨by rw [HL.out]; omega, he, by rw [HL.out, hq]; exact hqq⟩
            have HZ0 := Lib.hid hz
            clear hz he hq hqq
            go_wp2_with (go_at_call 77; refine (HRUN3.out _ HRW.out).mono ?_; rintro e w' ⟨rfl, rfl⟩)
            obtain ⟨av, cv, rfl, O2, -⟩ := HO.out.get
            exact bodyPost_ret (v := .tuple #[.int .i64 i, .int .i64 p, .slice av ds.length cv, .bool true]) (by simp [results, Try.results73, go_sem]) rfl (by rw [HZ0.out]; exact ⟨_, rfl, O2, HB.out⟩)
          · have hd : ((q : Int) != (n : Int) - (a : Int) - 1) = true := by simp; omega
            have hz := pd_c HI0.out HP.out HT2.out (fun h => by have h2 := h.2.2; rw [HL.out, hq] at h2; exact hqq h2)
            have HZ0 := Lib.hid hz
            clear hz he hq hqq
            go_wp2_with (go_at_call 77; refine (HRUN3.out _ HRW.out).mono ?_; rintro e w' ⟨rfl, rfl⟩)
            exact bodyPost_ret (v := .tuple #[.int .i64 0, .int .i64 0, .slice none 0 0, .bool false]) (by simp [results, Try.results73, go_sem]) rfl (by rw [HZ0.out]; exact ⟨_, rfl, Own.nil_, HB.out⟩)
      · have hz := pd_c HI0.out HP.out HT2.out (fun h => by have h2 := h.1; rw [HL.out] at h2; omega)
        have HZ0 := Lib.hid hz
        clear hz
        go_wp2
        exact bodyPost_ret (v := .tuple #[.int .i64 0, .int .i64 0, .slice none 0 0, .bool false]) (by simp [results, Try.results73, go_sem]) rfl (by rw [HZ0.out]; exact ⟨_, rfl, Own.nil_, HB.out⟩)
end Go.Proofs.Ytilkopbfbmibgaa
