/-
  slices.Clone of demands; SortDemands of the program.
-/
import Derived.Test.YtbbodgeoenjdkaaSm9
import Derived.Test.YtbbodgeoenjdkaaPl9
namespace Go.Proofs.Ytbbodgeoenjdkaa
open Go.RowKit

section
variable {P : Program} {E T : Nat} (w : World) {ops : Array Oper} {rest : List Oper} {o : Oper} {a : Act} {Q : Exit → Act → World → Prop} {K : Act → World → Prop}
theorem app_dms (s x : Operand)
    (ho : o.op = .call { callee := .builtin .append, args := #[s, x], argTypes := #[T, T] })
    (base : Nat) (ht : P.underlying T = some (.slice E)) (hi : InfoDm P E)
    (v : Value) (t : List Dm) (hs : a.eval s = v) (hown : OwnDm E w base v t) (b off n : Nat) (y : List Dm) (c : Nat) (hx : a.eval x = .slice (some ⟨b, off, none⟩) n c) (hc : RdDm w (some ⟨b, off, none⟩) n y)
    (hlen : t.length + n ≤ 1073741824) (hbase : base ≤ w.heap.size)
    (h : ∀ v' w', OwnDm E w' base v' (t ++ y) → w.grownBy w' v.ownBlock → K (a.put o.dst v') w') : o.wp P a w K Q := by
  obtain ⟨i0, hi, hz0, hz1, hz2⟩ := info_parts_dm hi
  have hl := hc.len
  subst hl
  refine wp_append_own w s x T ho base E i0 (dmVal Dm.zero) 3 24 ht hi hz0 hz1 hz2 (by rw [cellsDm_zero]; rfl) (by decide) v t.length (t.flatMap dmCells) hs hown ⟨b, off, none⟩ y.length c (y.flatMap dmCells) hx (flatDm_len y) ?_ ?_ (by unfold maxLen; omega) (by omega) hbase ?_
  · intro j u hj
    have hjl := (List.getElem?_eq_some_iff.1 hj).1
    rw [flatDm_len] at hjl
    obtain ⟨i, z, rfl, hz⟩ : ∃ i z, j = i * 3 + z ∧ z < 3 := ⟨j / 3, j % 3, by omega, by omega⟩
    have hil : i < y.length := by omega
    rw [flatDm_get y i z hil hz] at hj
    obtain ⟨b', off', e, hat⟩ := hc.here (by omega)
    cases e
    have hin := hat i hil
    have ha : (⟨b, off, none⟩ : Addr).add (i * 3 + z) = ⟨b, off + (i * 3 + z), none⟩ := by simp [Addr.add]
    rw [ha]
    match z, hz with
    | 0, _ => simp [dmCells] at hj; subst hj; have := hin.c0; rwa [show off + (i * 3 + 0) = off + i * 3 from by omega]
    | 1, _ => simp [dmCells] at hj; subst hj; have := hin.c1; rwa [show off + (i * 3 + 1) = off + i * 3 + 1 from by omega]
    | 2, _ => simp [dmCells] at hj; subst hj; have := hin.c2; rwa [show off + (i * 3 + 2) = off + i * 3 + 2 from by omega]
  · intro u hu
    obtain ⟨d, -, hd⟩ := List.mem_flatMap.1 hu
    simp [dmCells] at hd
    rcases hd with rfl | rfl | rfl <;> rfl
  · intro v' w' h1 h2 _
    refine h v' w' ?_ h2
    unfold OwnDm
    rw [List.length_append, List.flatMap_append]
    simpa using h1
theorem append_dms (hgd : o.guard = none) (s x : Operand)
    (ho : o.op = .call { callee := .builtin .append, args := #[s, x], argTypes := #[T, T] })
    (base : Nat) (ht : P.underlying T = some (.slice E)) (hi : InfoDm P E)
    (v : Value) (t : List Dm) (hs : a.eval s = v) (hown : OwnDm E w base v t) (b off n : Nat) (y : List Dm) (c : Nat) (hx : a.eval x = .slice (some ⟨b, off, none⟩) n c) (hc : RdDm w (some ⟨b, off, none⟩) n y)
    (hlen : t.length + n ≤ 1073741824) (hbase : base ≤ w.heap.size)
    (h : ∀ v' w', OwnDm E w' base v' (t ++ y) → Below base w w' → wpList P ops Q rest (a.put o.dst v') w') : wpList P ops Q (o :: rest) a w :=
  wpList_plain hgd fun _ hK => app_dms w s x ho base ht hi v t hs hown b off n y c hx hc hlen hbase fun v' w' h1 h2 => hK _ _ (h v' w' h1 ((Below.refl _ _).grown h2 hbase fun k hk => (hown.block k hk).1))
end
theorem info_dmP : (Try.prog.info? 38).map (fun i => (i.zero, i.size, i.bytes)) = some (some (dmVal Dm.zero), 3, 24) := by kernel_rfl
set_option maxRecDepth 100000 in
theorem cloneDm_any (b off n cap : Nat) (t : List Dm) (w : World) (hr : RdDm w (some ⟨b, off, none⟩) n t) (hn : n ≤ 1048576) :
    Calls Try.prog 55 #[.slice (some ⟨b, off, none⟩) n cap] w (MakesDm 38 w t) := by
  have HR := Lib.hid hr; clear hr
  have hrun : (Sem.run Try.prog (binOp BinOp.eql 24 (Value.slice (some ⟨b, off, none⟩) n cap) (Value.slice none 0 0)) w) = .ok (.bool false) w := by kernel_rfl
  go_enter Try.func55, Try.ntmps55
  go_wp2_with (at_builtin; refine append_dms _ rfl (.tmp 5) (.tmp 6) rfl w.heap.size Try.underlying24 info_dmP _ [] rfl (OwnDm.of_alloc_nil (Nat.le_refl _)) _ _ _ t _ rfl (HR.out.below ((Below.refl _ _).alloc (Nat.le_refl _) _)) (by simp; omega) (by simp) ?_; intro v1 w1 o1 b1)
  go_ret
  exact ⟨_, rfl, o1, ((Below.refl _ _).alloc (Nat.le_refl _) _).trans b1⟩
set_option maxRecDepth 100000 in
theorem cloneDm_nil (cap : Nat) (w : World) (hc : cap = 0) :
    Calls Try.prog 55 #[.slice none 0 cap] w (MakesDm 38 w []) := by
  subst hc
  have hrun : (Sem.run Try.prog (binOp BinOp.eql 24 (Value.slice none 0 0) (Value.slice none 0 0)) w) = .ok (.bool true) w := by kernel_rfl
  go_enter Try.func55, Try.ntmps55
  go_wp2
  go_ret
  exact ⟨_, rfl, OwnDm.nil_, Below.refl _ _⟩
theorem insertion_nil (w : World) (c : Value) : Calls Try.prog 86 #[.slice none 0 0, .int .i64 0, .int .i64 0, c] w fun e w' => e = .returned (.tuple #[]) ∧ w = w' := by
  go_enter Try.func86, Try.ntmps86
  go_wp2
  go_loop [8] (fun s8 => s8 = .int .i64 1) (fun _ => 0)
  case atStart => exact rfl
  case round =>
    obtain rfl := hrel
    go_wp2
    go_end0
    exact ⟨rfl, rfl⟩
theorem stable_nil (w : World) (c : Value) : Calls Try.prog 81 #[.slice none 0 0, .int .i64 0, c] w fun e w' => e = .returned (.tuple #[]) ∧ w = w' := by
  have HI := Lib.hid (insertion_nil w c)
  go_enter Try.func81, Try.ntmps81
  go_wp2
  go_loop [7, 8] (fun s7 s8 => s7 = .int .i64 0 ∧ s8 = .int .i64 20) (fun _ _ => 0)
  case atStart => exact ⟨rfl, rfl⟩
  case round =>
    obtain ⟨rfl, rfl⟩ := hrel
    go_wp2_with fail
    refine HI.out.mono ?_
    rintro e w1 ⟨rfl, rfl⟩
    go_wp2
    go_loop [6] (fun s6 => s6 = .int .i64 20) (fun _ => 0)
    case atStart => exact rfl
    case round =>
      obtain rfl := hrel
      go_wp2
      go_end0
      exact ⟨rfl, rfl⟩
theorem sort_nil (w : World) (c : Value) : Calls Try.prog 56 #[.slice none 0 0, c] w fun e w' => e = .returned (.tuple #[]) ∧ w = w' := by
  have HI := Lib.hid (stable_nil w c)
  go_enter Try.func56, Try.ntmps56
  go_wp2_with fail
  refine HI.out.mono ?_
  rintro e w1 ⟨rfl, rfl⟩
  go_wp2
  go_end0
  exact ⟨rfl, rfl⟩
theorem dms_pow {t : List Dm} (h : areDms t = true) : ∀ x ∈ t, isPow x.every = true := fun x hx => (isDm_iff.1 ((areDms_iff.1 h).2 x hx)).2.1
/-- impl.SortDemands. -/
theorem sortDemandsI_any (ao : Option Addr) (n cap : Nat) (t : List Dm) (w : World) (hr : RdDm w ao n t) (hn : n ≤ 1048576) (hform : (ao = none ∧ cap = 0) ∨ ∃ g : Nat, ao = some ⟨g, 0, none⟩) :
    Calls Try.prog 18 #[.slice ao n cap] w (MakesDm2 38 w (sortDemands t).1 (sortDemands t).2) := by
  have HA := Lib.hid (areDmsI_any ao n cap t w hr (by omega))
  have HR := Lib.hid hr
  clear hr
  cases hd : areDms t
  · have HE := Lib.hid (show sortDemands t = ([], 1) from by unfold sortDemands; rw [if_pos hd])
    rw [hd] at HA
    clear hd
    go_enter Try.func18, Try.ntmps18
    go_wp2_with fail
    refine HA.out.mono ?_
    rintro e w1 ⟨rfl, b1⟩
    go_wp2
    go_ret2
    rw [HE.out]
    exact ⟨.slice none 0 0, rfl, OwnDm.nil_, b1⟩
  · have HE := Lib.hid (show sortDemands t = (plSorted t, 0) from by unfold sortDemands; rw [if_neg (by rw [hd]; decide)])
    have hlen := areDms_len hd
    have HP := Lib.hid (dms_pow hd)
    rw [hd] at HA
    clear hd
    have HCL := Lib.hid (fun W (hW : RdDm W ao n t) => (by
      rcases hform with ⟨rfl, hcap⟩ | ⟨g, rfl⟩
      · have hn0 : n = 0 := by
          rcases Nat.eq_zero_or_pos n with h | h
          · exact h
          · obtain ⟨_, _, e, _⟩ := hW.here h; cases e
        subst hn0
        have ht : t = [] := List.length_eq_zero_iff.1 hW.len
        subst ht
        exact cloneDm_nil cap W hcap
      · exact cloneDm_any g 0 n cap t W hW hn : Calls Try.prog 55 #[.slice ao n cap] W (MakesDm 38 W t)))
    go_enter Try.func18, Try.ntmps18
    go_wp2_with fail
    refine HA.out.mono ?_
    rintro e w1 ⟨rfl, b1⟩
    have HB1 := Lib.hid b1
    have HC1 := Lib.hid (HCL.out w1 (HR.out.below b1))
    clear b1 HA HR HCL
    go_wp2_with fail
    refine HC1.out.mono ?_
    rintro e w2 ⟨v, rfl, o2, b2⟩
    have HB2 := Lib.hid (below_two HB1.out b2)
    obtain ⟨ao2, cap2, rfl, -, -, -, hv⟩ := o2.form
    rcases hv with hv | ⟨g, rfl, hg1, hg2⟩
    · rw [hv] at o2 ⊢
      injection hv with _ hv2 _
      have ht : t = [] := List.length_eq_zero_iff.1 hv2
      subst ht
      have HS := Lib.hid (sort_nil w2 (.func (.func 57) #[] #[]))
      clear HC1 o2 b2
      go_wp2_with fail
      refine HS.out.mono ?_
      rintro e w3 ⟨rfl, rfl⟩
      go_wp2
      go_ret2
      rw [HE.out]
      exact ⟨.slice none 0 0, rfl, OwnDm.nil_, HB2.out⟩
    · have hso : SoAt w2 w2 w1.heap.size g t.length cap2 (fun i => dmOf t i) := ⟨by rw [show mkF (fun i => dmOf t i) t.length = t from mkF_of t Dm.zero]; exact o2, ⟨rfl, rfl, rfl, Nat.le_refl _, fun _ _ _ => rfl⟩⟩
      have HS := Lib.hid (sortStable_any w2 w2 w1.heap.size g t.length cap2 _ hso hlen)
      have HG := Lib.hid (show w.heap.size ≤ g from Nat.le_trans HB1.out.size hg1)
      clear hso o2 b2 HC1
      go_wp2_with fail
      refine HS.out.mono ?_
      rintro e w3 ⟨rfl, k, s3, m3⟩
      have hm := mg_sorted HP.out m3
      have ho := s3.own
      rw [hm] at ho
      have hsl : (plSorted t).length = t.length := by rw [← hm, mkF_len]
      have HO := Lib.hid (show OwnDm 38 w3 w.heap.size (.slice (some ⟨g, 0, none⟩) t.length cap2) (plSorted t) from ho.more HB1.out.size)
      have HBF := Lib.hid (HB2.out.grown s3.kp HB2.out.size (fun q hq => by cases hq; exact HG.out))
      clear s3 m3 hm ho HS
      go_wp2
      go_ret2
      rw [HE.out]
      exact ⟨_, rfl, HO.out, HBF.out⟩
end Go.Proofs.Ytbbodgeoenjdkaa
