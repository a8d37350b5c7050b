/-
  Chapter 18: the beginning of a list, the bytes of a line, on the program's side.
-/
import Derived.Test.YtilkopbfbmibgaaLi2
namespace Go.Proofs.Ytilkopbfbmibgaa
open Go.RowKit

/-- Whether a list begins with two numbers. -/
def begins (xs : List Int) (x y : Int) : Bool := decide (2 ≤ xs.length ∧ xs.getD 0 0 = x ∧ xs.getD 1 0 = y)
theorem begins_short {xs : List Int} {x y : Int} (h : xs.length < 2) : begins xs x y = false := decide_eq_false (by omega)
theorem begins_eq {xs : List Int} {x y : Int} (h : 2 ≤ xs.length) : decide ((xs.drop 0).take 2 = [x, y]) = begins xs x y := by
  unfold begins
  rcases xs with _ | ⟨a, _ | ⟨b, r⟩⟩
  · simp at h
  · simp at h
  · simp
theorem begins_iff {xs : List Int} {x y : Int} : begins xs x y = true ↔ 2 ≤ xs.length ∧ xs.getD 0 0 = x ∧ xs.getD 1 0 = y := by simp [begins]
/-- impl.beginsWith of two numbers. -/
theorem beginsWith_any (ao : Option Addr) (n cap : Nat) (xs : List Int) (bo : Option Addr) (x y : Int) (w : World) (hr : Rd w ao n xs) (hf : Rd w bo 2 [x, y]) (hn : n ≤ 1048576) (hcap : n ≤ cap) (hcap2 : cap ≤ 9223372036854775807) :
    Calls Try.prog 70 #[.slice ao n cap, .slice bo 2 2] w fun e w' => e = .returned (.bool (begins xs x y)) ∧ Below w.heap.size w w' := by
  have HL := Lib.hid hr.len; have HR := Lib.hid hr; have HF := Lib.hid hf; clear hr hf
  by_cases h2 : 2 ≤ n
  · have hb := begins_eq (x := x) (y := y) (xs := xs) (by rw [HL.out]; exact h2)
    have HB := Lib.hid hb; clear hb
    have hs := HR.out.slice (a := 0) (k := 2) (by omega)
    have hs' : Rd w ao 2 ((xs.drop 0).take 2) := by
      obtain ⟨b, off, rfl, -⟩ := HR.out.here (by omega)
      simpa [Addr.add] using hs
    have HS := Lib.hid hs'; clear hs hs'
    go_enter Try.func70, Try.ntmps70
    go_wp2_with (go_at_call 75; refine (equal_any _ _ _ _ _ _ _ _ _ HS.out HF.out (by omega) (by omega)).mono ?_; rintro e w' ⟨rfl, q, rfl⟩; rw [HB.out])
    go_ret
    exact ⟨rfl, below_drewN' (Below.refl _ _) _⟩
  · rw [begins_short (by rw [HL.out]; omega)]
    go_enter Try.func70, Try.ntmps70
    go_wp2
    go_ret
    exact ⟨rfl, Below.refl _ _⟩
theorem rd_two' {T : Nat} (x y : Int) (w : World) : Rd (w.alloc (.cells #[.int .i64 x, .int .i64 y] T)) (some ⟨w.heap.size, 0, none⟩) 2 [x, y] := by
  have := (Own.of_alloc_two (E := T) (base := w.heap.size) (w := w) x y (Nat.le_refl _)).form
  obtain ⟨ao, c, e, hr, -⟩ := this
  cases e
  exact hr
theorem takeBytes_acc {ys ds : List Int} {z : List Int × List Int} (h : z = (ds ++ (takeBytes ys).1, (takeBytes ys).2)) (hc : 10 ≤ ys.length ∧ ys.getD 0 0 = 1 ∧ ys.getD 1 0 = 0) :
    z = ((ds ++ [numOf ((ys.drop 2).take 8)]) ++ (takeBytes (ys.drop 10)).1, (takeBytes (ys.drop 10)).2) := by
  rw [h, takeBytes_one hc]; simp
/-- A slice that reads, cut at its front. -/
theorem rd_cut {w : World} {ao : Option Addr} {m k : Nat} {ys : List Int} (h : Rd w ao m ys) (hk : k ≤ m) : Rd w (Option.map (fun (x : Addr) => x.add k) ao) (m - k) (ys.drop k) := by
  have := h.slice (a := k) (k := m - k) (by omega)
  rwa [List.take_of_length_le (by rw [List.length_drop, h.len]; exact Nat.le_refl _)] at this
/-- impl.takeBytes. -/
theorem takeBytes_any (ao : Option Addr) (n cap : Nat) (xs : List Int) (w : World) (hr : Rd w ao n xs) (hn : n ≤ 1048576) (hcap : n ≤ cap) (hcap2 : cap ≤ 9223372036854775807) (hbits : ∀ x ∈ xs, 0 ≤ x ∧ x ≤ 1) :
    Calls Try.prog 69 #[.slice ao n cap] w fun e w' => ∃ v ao' m cap', e = .returned (.tuple #[v, .slice ao' m cap']) ∧ Own 2 w' w.heap.size v (takeBytes xs).1 ∧ (∀ W, Rd W ao n xs → Rd W ao' m (takeBytes xs).2) ∧ m ≤ n ∧ m ≤ cap' ∧ cap' ≤ 9223372036854775807 ∧ Below w.heap.size w w' := by
  have HR := Lib.hid hr; have HZ := Lib.hid hbits; clear hr hbits
  go_enter Try.func69, Try.ntmps69
  go_wp2
  go_loopw [0, 4] (fun c v wr => ∃ (m : Nat) (cap' : Nat) (ao' : Option Addr) (ys ds : List Int), m ≤ n ∧ c = .slice ao' m cap' ∧ m ≤ cap' ∧ cap' ≤ 9223372036854775807 ∧ Hid (∀ W, Rd W ao n xs → Rd W ao' m ys) ∧ Hid (takeBytes xs = (ds ++ (takeBytes ys).1, (takeBytes ys).2)) ∧ Hid (∀ x ∈ ys, 0 ≤ x ∧ x ≤ 1) ∧ ds.length + m ≤ n ∧ Hid (Own 2 wr w.heap.size v ds) ∧ Hid (Below w.heap.size w wr)) (fun c _ _ => match c with | .slice _ m _ => m | _ => 0)
  case atStart => exact ⟨n, cap, ao, xs, [], Nat.le_refl _, rfl, hcap, hcap2, Lib.hid (fun _ h => h), Lib.hid (by simp), HZ, by simp, Lib.hid Own.nil_, Lib.hid (Below.refl _ _)⟩
  case round =>
    obtain ⟨m, cap', ao', ys, ds, hm, rfl, hmc, hc2, HYW, HT, HB, hds, HO, HE⟩ := hrel
    have HY := Lib.hid (HYW.out w HR.out)
    have hlen := HY.out.len
    have HLN := Lib.hid hlen; clear hlen
    by_cases h10 : 10 ≤ m
    · rcases hbg : begins ys 1 0 with _ | _
      · have hstop : takeBytes ys = ([], ys) := takeBytes_stop (fun h => by
          have : begins ys 1 0 = true := begins_iff.2 ⟨by omega, h.2.1, h.2.2⟩
          rw [hbg] at this; cases this)
        have HT2 := Lib.hid (HT.out.trans (by rw [hstop, List.append_nil]))
        clear hstop HT
        have HBG := Lib.hid hbg; clear hbg
        go_wp2_with (go_at_call 70; refine (beginsWith_any _ _ _ ys _ 1 0 _ (HY.out.below (HE.out.trans ((Below.refl _ _).alloc HE.out.size _))) (rd_two' _ _ _) (by omega) hmc hc2).mono ?_; rintro e w' ⟨rfl, b1⟩; rw [HBG.out])
        go_ret2
        have B1 := HE.out.trans ((((Below.refl _ _).alloc HE.out.size _)).trans (b1.mono (by have := HE.out.size; simp; omega)))
        exact ⟨_, _, _, _, rfl, by rw [HT2.out]; exact HO.out.below ((((Below.refl _ _).alloc (Nat.le_refl _) _)).trans (b1.mono (by simp))), by rw [HT2.out]; exact HYW.out, hm, hmc, hc2, B1⟩
      · obtain ⟨-, c0, c1⟩ := begins_iff.1 hbg
        have hcond : 10 ≤ ys.length ∧ ys.getD 0 0 = 1 ∧ ys.getD 1 0 = 0 := ⟨by rw [HLN.out]; exact h10, c0, c1⟩
        have HT2 := Lib.hid (takeBytes_acc HT.out hcond)
        have HBG := Lib.hid hbg; clear hbg hcond c0 c1 HT
        have hsl := HY.out.slice (a := 2) (k := 8) (by omega)
        have HSL := Lib.hid hsl; clear hsl
        have HDB := Lib.hid (show ∀ x ∈ ys.drop 10, 0 ≤ x ∧ x ≤ 1 from fun x hx => HB.out x (List.mem_of_mem_drop hx))
        have hne2 : ¬ cap' = 2 := by omega
        obtain ⟨b, off, rfl, -⟩ := HY.out.here (by omega)
        have hdl : ds.length ≤ 4294967296 := by omega
        have hbs := HE.out.size
        go_wp2_with (first
          | (go_at_call 70; refine (beginsWith_any _ _ _ ys _ 1 0 _ (HY.out.below (HE.out.trans ((Below.refl _ _).alloc HE.out.size _))) (rd_two' _ _ _) (by omega) hmc hc2).mono ?_; rintro e w1 ⟨rfl, b1⟩; rw [HBG.out]; have hb1 := b1.size; simp at hb1; have B1 := HE.out.trans ((((Below.refl _ _).alloc HE.out.size _)).trans (b1.mono (by simp; omega))); have O1 := HO.out.below ((((Below.refl _ _).alloc (Nat.le_refl _) _)).trans (b1.mono (by simp))); clear b1)
          | (go_at_call 58; refine (numberOf_any _ _ _ _ _ (HSL.out.below B1) (by omega) fun x hx => HB.out x (List.mem_of_mem_drop (List.mem_of_mem_take hx))).mono ?_; rintro e w' ⟨rfl, rfl⟩)
          | (at_builtin; refine append_one _ rfl (.tmp 13) (.tmp 17) rfl w.heap.size Try.underlying24 info64 _ _ rfl (O1.below ((Below.refl _ _).alloc (Nat.le_refl _) _)) _ _ _ rfl (new_cell rfl) hdl (by simp; omega) ?_; intro v2 w2 o2 b2))
        by_cases hc10 : cap' = 10
        · go_wp2
          go_roundw
          case rel => exact ⟨m - 10, by omega, 0, _, ⟨rfl, rfl, rfl⟩, by omega, by omega, [], Lib.hid (fun _ _ => by rw [show m - 10 = 0 from by omega]; exact Rd.nil_), ds ++ [numOf ((ys.drop 2).take 8)], Lib.hid (by have h := HT2.out; rwa [show ys.drop 10 = [] from List.drop_of_length_le (by rw [HLN.out]; omega)] at h), Lib.hid (by simp), by simp; omega, Lib.hid o2, Lib.hid (B1.trans ((((Below.refl _ _).alloc (by omega) _)).trans b2))⟩
          case measure => show _ < _; omega
        · go_wp2
          go_roundw
          case rel => exact ⟨m - 10, by omega, cap' - 10, _, ⟨rfl, rfl, rfl⟩, by omega, by omega, ys.drop 10, Lib.hid (fun W hW => (rd_cut (HYW.out W hW) h10).plus), ds ++ [numOf ((ys.drop 2).take 8)], HT2, HDB, by simp; omega, Lib.hid o2, Lib.hid (B1.trans ((((Below.refl _ _).alloc (by omega) _)).trans b2))⟩
          case measure => show _ < _; omega
    · have hstop : takeBytes ys = ([], ys) := takeBytes_stop (by rw [HLN.out]; omega)
      have HT2 := Lib.hid (HT.out.trans (by rw [hstop, List.append_nil]))
      clear hstop HT
      go_wp2
      go_ret2
      exact ⟨_, _, _, _, rfl, by rw [HT2.out]; exact HO.out, by rw [HT2.out]; exact HYW.out, hm, hmc, hc2, HE.out⟩
end Go.Proofs.Ytilkopbfbmibgaa
