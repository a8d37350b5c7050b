/-
  The walk of laws.FnNodeTables: at every input it returns true and writes nothing that was there.
-/
import Derived.Test.YtpedlofckbplmaaRows
import Derived.Test.YtpedlofckbplmaaNA
import Derived.Test.YtpedlofckbplmaaNI
import Derived.Test.YtpedlofckbplmaaNL
import Derived.Test.YtpedlofckbplmaaL4
import Derived.Test.YtpedlofckbplmaaDrawA
import Derived.Test.YtpedlofckbplmaaDrawB
import Derived.WalkKit
import Derived.ProofKit
import Derived.OpenShut
import Derived.ShutString
import Derived.ChangeOld
import Derived.Below
namespace Go.Proofs.Ytpedlofckbplmaa.fnNodeTables
open Go.ChangeShapes Go.WideShapes Go.ChangeAt Go.RowKit
open Go.ChangeMaps (open_string shut_string)
set_option linter.unusedVariables false


/-- WHAT THE WALK IS TOLD OF A SLICE OF INTEGERS THAT CAME IN: it is nil; or it leads to a row of 'cap' cells, the numbers 'zs' (the first 'len' are its elements, the rest its spare room), each fitting its kind. -/
def IsRow (k : IntKind) (w : World) (a : Option Addr) (len cap : Nat) (zs : List Int) : Prop :=
  (a = none ∧ len = 0 ∧ cap = 0 ∧ zs = []) ∨
  ∃ x, a = some x ∧ len ≤ cap ∧ cap ≤ maxLen ∧ zs.length = cap ∧ (∀ i, i < zs.length → w.cell? (x.add i) = some (.int k (zs.getD i 0))) ∧ ∀ n ∈ zs, (Lit.int k n).wf = true

/-! ### STEP 1: THE WALK: the Go text returns true, AND WRITES NOTHING THAT WAS THERE: 'Below w.heap.size w w'' (Derived/Below.lean: '.refl', '.alloc', '.drew', '.setCell' at a new block, '.trans'). Open each 'IsRow' by 'rcases' AHEAD of 'go_enter'; part every test ahead of the walk. -/
set_option maxRecDepth 100000 in set_option maxHeartbeats 4000000 in
theorem walk (a0 : Option Addr) (len0 cap0 : Nat) (z0 : List Int) (w : World) (w0 : IsRow .u8 w a0 len0 cap0 z0) :
    Calls Try.prog 3 #[.slice a0 len0 cap0] w fun e w' => e = .returned (.bool true) ∧ Below w.heap.size w w' := by
  have hr := rdB_of_row w0
  clear w0
  generalize List.take len0 z0 = cs at hr
  have HR := Lib.hid hr; clear hr
  by_cases hbig : len0 ≤ 4096
  rotate_left
  · go_enter Try.func3, Try.ntmps3
    go_wp2_with fail
    refine (big_yes _ _ _ _ hbig).mono ?_
    rintro e w' ⟨rfl, rfl⟩
    go_wp2
    go_ret
    exact ⟨rfl, Below.refl _ _⟩
  go_enter Try.func3, Try.ntmps3
  go_wp2_with fail
  refine (big_no _ _ _ _ hbig).mono ?_
  rintro e w' ⟨rfl, rfl⟩
  have H : Hold w w [] := Hold.start
  go_wp2_with fail
  refine (drawNodeTableBytes_any _ _ _ cs _ HR.out (by omega)).mono ?_
  rintro e w1' ⟨v, t, rfl, oT, haT, bT⟩
  obtain ⟨pT, cT, rfl, oT, -⟩ := oT.get
  replace H := H.makeN oT bT
  have HA := Lib.hid haT
  clear oT bT haT
  obtain ⟨r0, c0, hF⟩ : ∃ r0 c0, nodeTableBytes t = (r0, c0) := ⟨_, _, rfl⟩
  have HF := Lib.hid hF
  have hlen : r0.length ≤ 1048576 := by have h := nodeTableBytes_len t; rw [hF] at h; exact h
  clear hF
  go_wp2_with fail
  refine (nodeTableBytes_any _ _ _ t _ (H.rdN 0 rfl) (OwnN.cap (H.getN 0 rfl)).1 (OwnN.cap (H.getN 0 rfl)).2 HA.out.small).mono ?_
  rintro e w2' m2
  rw [HF.out] at m2
  change Makes2 2 _ r0 c0 _ _ at m2
  obtain ⟨p2, c2, rfl, o2, -, b2⟩ := m2.get
  replace H := H.makeI o2 b2
  clear o2 b2 m2
  go_wp2_with fail
  refine (sNodeTableBytes_any _ _ _ t _ (H.rdN 1 rfl) (OwnN.cap (H.getN 1 rfl)).1 (OwnN.cap (H.getN 1 rfl)).2 HA.out.small).mono ?_
  rintro e w3' m3
  rw [HF.out] at m3
  change Makes2 2 _ r0 c0 _ _ at m3
  obtain ⟨p3, c3, rfl, o3, -, b3⟩ := m3.get
  replace H := H.makeI o3 b3
  clear o3 b3 m3
  go_wp2_with fail
  refine (drawReadNodeTable_any _ _ _ cs _ (rdB_later HR.out H.below) (by omega)).mono ?_
  rintro e w4' ⟨v, ys, rfl, oY, hyl, bY⟩
  obtain ⟨pY, cY, rfl, oY, -⟩ := oY.get
  replace H := H.makeI oY bY
  clear oY bY
  obtain ⟨t1, n1, c1, hG⟩ : ∃ t1 n1 c1, readNodeTable ys = (t1, n1, c1) := ⟨_, _, _, rfl⟩
  have HG := Lib.hid hG
  have hlen1 : t1.length ≤ 1048576 := by have h := readNodeTable_len ys; rw [hG] at h; exact h
  clear hG
  go_wp2_with fail
  refine (readNodeTable_any _ _ _ ys _ (H.rdI 0 rfl) hyl (Own.cap (H.getI 0 rfl)).1 (Own.cap (H.getI 0 rfl)).2 (fun a e => by subst e; exact ((H.getI 0 rfl).block _ rfl).2)).mono ?_
  rintro e w5' m5
  rw [HG.out] at m5
  change MakesN3 59 _ t1 n1 c1 _ _ at m5
  obtain ⟨p5, c5, rfl, o5, -, b5⟩ := m5.get
  replace H := H.makeN o5 b5
  clear o5 b5 m5
  go_wp2_with fail
  refine (sReadNodeTable_any _ _ _ ys _ (H.rdI 1 rfl) hyl (Own.cap (H.getI 1 rfl)).1 (Own.cap (H.getI 1 rfl)).2).mono ?_
  rintro e w6' m6
  rw [HG.out] at m6
  change MakesN3 59 _ t1 n1 c1 _ _ at m6
  obtain ⟨p6, c6, rfl, o6, -, b6⟩ := m6.get
  replace H := H.makeN o6 b6
  clear o6 b6 m6
  have hn0 : (c0 != c0) = false := bne_self_eq_false _
  have hn1 : (c1 != c1) = false := bne_self_eq_false _
  have hn2 : (n1 != n1) = false := bne_self_eq_false _
  have hnt : (isTable t != isTable t) = false := bne_self_eq_false _
  go_wp2_with fail
  refine (like_yes _ _ _ _ _ _ _ _ (H.rdI 4 rfl) (H.rdI 3 rfl) (by omega)).mono ?_
  rintro e w7' ⟨rfl, b7⟩
  replace H := H.still b7
  clear b7
  go_wp2_with fail
  refine (likeNodes_yes _ _ _ _ _ _ _ (H.rdN 1 rfl) (H.rdN 0 rfl) (by omega) (OwnN.cap (H.getN 1 rfl)).1 (OwnN.cap (H.getN 0 rfl)).1).mono ?_
  rintro e w8' ⟨rfl, b8⟩
  replace H := H.still b8
  clear b8
  go_wp2_with fail
  refine (isTable_any _ _ _ t _ (H.rdN 5 rfl) (OwnN.cap (H.getN 5 rfl)).1 (OwnN.cap (H.getN 5 rfl)).2 HA.out.small).mono ?_
  rintro e w9' ⟨rfl, b9⟩
  replace H := H.still b9
  clear b9
  go_wp2_with fail
  refine (sIsTable_any _ _ _ t _ (H.rdN 5 rfl) (OwnN.cap (H.getN 5 rfl)).1 (OwnN.cap (H.getN 5 rfl)).2 HA.out.small).mono ?_
  rintro e w10' ⟨rfl, b10⟩
  replace H := H.still b10
  clear b10
  clear hn0 hn1 hn2
  by_cases hone : c1 = 0
  · subst hone
    obtain ⟨a, hna, hay, hag⟩ := read_again HG.out
    subst hna
    have ht1 := (bytes_table hag).1
    have HAG := Lib.hid hag; clear hag
    have hac : (a : Int) ≤ (ys.length : Int) := by omega
    have ha0 : (0 : Int) ≤ (a : Int) := by omega
    have hcy := (Own.cap (H.getI 2 rfl)).1
    have hac2 : (a : Int) ≤ (cY : Int) := by omega
    go_wp2_with fail
    refine (nodeTableBytes_any _ _ _ t1 _ (H.rdN 1 rfl) (OwnN.cap (H.getN 1 rfl)).1 (OwnN.cap (H.getN 1 rfl)).2 (table_small ht1)).mono ?_
    rintro e w11' m11
    rw [HAG.out] at m11
    change Makes2 2 _ (ys.take a) 0 _ _ at m11
    have hyta : (ys.take a).length = a := by rw [List.length_take]; omega
    obtain ⟨p11, c11, rfl, o11, -, b11⟩ := m11.get
    replace H := H.makeI o11 b11
    clear o11 b11 m11 ht1
    rw [hyta]
    have hrag := (H.rdI 0 rfl)
    rw [hyta] at hrag
    have HRAG := Lib.hid hrag; clear hrag
    go_wp2_with fail
    refine (like_yes _ _ _ _ _ _ _ _ HRAG.out (Rd.front (H.rdI 3 rfl) hay) (by omega)).mono ?_
    rintro e w12' ⟨rfl, b12⟩
    replace H := H.still b12
    clear b12 HRAG
    by_cases hbad : c0 = 0
    rotate_left
    · have t1' : (c0 != 0) = true := by simp [hbad]
      clear hbad
      go_wp2_with fail
      go_ret
      exact ⟨rfl, H.below⟩
    subst hbad
    obtain ⟨hit, hr0⟩ := bytes_table HF.out
    have hround : readNodeTable (r0 ++ [1, 2]) = (t, (r0.length : Int), 0) := by rw [hr0]; exact table_round hit [1, 2] (table_two hit [1, 2] (by intro z hz; simp at hz; omega) (by simp))
    have HRO := Lib.hid hround
    have heq : ((r0.length : Int) == (r0.length : Int)) = true := by simp
    clear hit hr0 hround
    go_wp2_with (first
      | (at_builtin; refine append_list _ rfl (.tmp 100) (.tmp 101) rfl w12'.heap.size Try.underlying26 info64 _ [] rfl (Own.of_alloc_nil (Nat.le_refl _)) _ _ _ r0 rfl ((H.rdI 5 rfl).below ((Below.refl _ _).alloc (Nat.le_refl _) _)) (by simp; omega) (by simp) ?_; intro vA wA oA bA; have hbA : Below w12'.heap.size w12' wA := ((Below.refl _ _).alloc (Nat.le_refl _) _).trans bA)
      | (at_builtin; refine append_list _ rfl (.tmp 102) (.tmp 103) rfl w12'.heap.size Try.underlying26 info64 _ ([] ++ r0) rfl (oA.below ((Below.refl _ _).alloc (Nat.le_refl _) _)) _ _ _ [1, 2] rfl (rd_two _ _ _ _) (by simp; omega) (by have := hbA.size; simp; omega) ?_; intro vB wB oB bB))
    have hbB : Below w12'.heap.size w12' wB := (hbA.alloc hbA.size _).trans bB
    rw [List.nil_append] at oB
    obtain ⟨pB, cB, hvB, oB, -⟩ := oB.get
    subst hvB
    replace H := H.makeI oB hbB
    clear oA bA hbA oB bB hbB
    have hXl : (r0 ++ [1, 2]).length ≤ 1048580 := by rw [List.length_append]; simp; omega
    obtain ⟨X, hX⟩ : ∃ X, X = r0 ++ [1, 2] := ⟨_, rfl⟩
    have hXl2 : X.length ≤ 1048576 := by have := tabBytes_len (bytes_table HF.out).1; rw [hX, (bytes_table HF.out).2, List.length_append]; simp; omega
    rw [← hX] at H HRO ⊢
    clear hX hXl
    refine (readNodeTable_any _ _ _ X _ (H.rdI 0 rfl) hXl2 (Own.cap (H.getI 0 rfl)).1 (Own.cap (H.getI 0 rfl)).2 (fun a e => by subst e; exact ((H.getI 0 rfl).block _ rfl).2)).mono ?_
    rintro e w13' m13
    rw [HRO.out] at m13
    change MakesN3 59 _ t (r0.length : Int) 0 _ _ at m13
    obtain ⟨p13, c13, rfl, o13, -, b13⟩ := m13.get
    replace H := H.makeN o13 b13
    clear o13 b13 m13
    have htl : t.length ≤ 5 := HA.out.1
    go_wp2_with fail
    refine (likeNodes_yes _ _ _ _ _ _ _ (H.rdN 0 rfl) (H.rdN 8 rfl) (by omega) (OwnN.cap (H.getN 0 rfl)).1 (OwnN.cap (H.getN 8 rfl)).1).mono ?_
    rintro e w14' ⟨rfl, b14⟩
    replace H := H.still b14
    clear b14
    go_wp2_with fail
    go_ret
    exact ⟨rfl, H.below⟩
  · skip
    have t1n : (c1 == 0) = false := by simp [hone]
    clear hone
    by_cases hbad : c0 = 0
    rotate_left
    · have t1' : (c0 != 0) = true := by simp [hbad]
      clear hbad
      go_wp2_with fail
      go_ret
      exact ⟨rfl, H.below⟩
    subst hbad
    obtain ⟨hit, hr0⟩ := bytes_table HF.out
    have hround : readNodeTable (r0 ++ [1, 2]) = (t, (r0.length : Int), 0) := by rw [hr0]; exact table_round hit [1, 2] (table_two hit [1, 2] (by intro z hz; simp at hz; omega) (by simp))
    have HRO := Lib.hid hround
    have heq : ((r0.length : Int) == (r0.length : Int)) = true := by simp
    clear hit hr0 hround
    go_wp2_with (first
      | (at_builtin; refine append_list _ rfl (.tmp 100) (.tmp 101) rfl w10'.heap.size Try.underlying26 info64 _ [] rfl (Own.of_alloc_nil (Nat.le_refl _)) _ _ _ r0 rfl ((H.rdI 4 rfl).below ((Below.refl _ _).alloc (Nat.le_refl _) _)) (by simp; omega) (by simp) ?_; intro vA wA oA bA; have hbA : Below w10'.heap.size w10' wA := ((Below.refl _ _).alloc (Nat.le_refl _) _).trans bA)
      | (at_builtin; refine append_list _ rfl (.tmp 102) (.tmp 103) rfl w10'.heap.size Try.underlying26 info64 _ ([] ++ r0) rfl (oA.below ((Below.refl _ _).alloc (Nat.le_refl _) _)) _ _ _ [1, 2] rfl (rd_two _ _ _ _) (by simp; omega) (by have := hbA.size; simp; omega) ?_; intro vB wB oB bB))
    have hbB : Below w10'.heap.size w10' wB := (hbA.alloc hbA.size _).trans bB
    rw [List.nil_append] at oB
    obtain ⟨pB, cB, hvB, oB, -⟩ := oB.get
    subst hvB
    replace H := H.makeI oB hbB
    clear oA bA hbA oB bB hbB
    have hXl : (r0 ++ [1, 2]).length ≤ 1048580 := by rw [List.length_append]; simp; omega
    obtain ⟨X, hX⟩ : ∃ X, X = r0 ++ [1, 2] := ⟨_, rfl⟩
    have hXl2 : X.length ≤ 1048576 := by have := tabBytes_len (bytes_table HF.out).1; rw [hX, (bytes_table HF.out).2, List.length_append]; simp; omega
    rw [← hX] at H HRO ⊢
    clear hX hXl
    refine (readNodeTable_any _ _ _ X _ (H.rdI 0 rfl) hXl2 (Own.cap (H.getI 0 rfl)).1 (Own.cap (H.getI 0 rfl)).2 (fun a e => by subst e; exact ((H.getI 0 rfl).block _ rfl).2)).mono ?_
    rintro e w11' m11
    rw [HRO.out] at m11
    change MakesN3 59 _ t (r0.length : Int) 0 _ _ at m11
    obtain ⟨p11, c11, rfl, o11, -, b11⟩ := m11.get
    replace H := H.makeN o11 b11
    clear o11 b11 m11
    have htl : t.length ≤ 5 := HA.out.1
    go_wp2_with fail
    refine (likeNodes_yes _ _ _ _ _ _ _ (H.rdN 0 rfl) (H.rdN 7 rfl) (by omega) (OwnN.cap (H.getN 0 rfl)).1 (OwnN.cap (H.getN 7 rfl)).1).mono ?_
    rintro e w12' ⟨rfl, b12⟩
    replace H := H.still b12
    clear b12
    go_wp2_with fail
    go_ret
    exact ⟨rfl, H.below⟩


end Go.Proofs.Ytpedlofckbplmaa.fnNodeTables
