/-
  The walk of laws.FnImageText: at every input it returns true and writes nothing that was there.
-/
import Derived.Test.YtljdkckoelgkbaaRows
import Derived.Test.YtljdkckoelgkbaaImU
import Derived.WalkKit
import Derived.ProofKit
import Derived.OpenShut
import Derived.ShutString
import Derived.ChangeOld
import Derived.Below
namespace Go.Proofs.Ytljdkckoelgkbaa.fnImageText
open Go.ChangeShapes Go.WideShapes Go.ChangeAt Go.RowKit
open Go.ChangeMaps (open_string shut_string)
set_option linter.unusedVariables false


/-- WHAT THE WALK IS TOLD OF A SLICE OF INTEGERS THAT CAME IN: it is nil; or it leads to a row of 'cap' cells, the numbers 'zs' (the first 'len' are its elements, the rest its spare room), each fitting its kind. -/
def IsRow (k : IntKind) (w : World) (a : Option Addr) (len cap : Nat) (zs : List Int) : Prop :=
  (a = none ∧ len = 0 ∧ cap = 0 ∧ zs = []) ∨
  ∃ x, a = some x ∧ len ≤ cap ∧ cap ≤ maxLen ∧ zs.length = cap ∧ (∀ i, i < zs.length → w.cell? (x.add i) = some (.int k (zs.getD i 0))) ∧ ∀ n ∈ zs, (Lit.int k n).wf = true

/-! ### STEP 1: THE WALK: the Go text returns true, AND WRITES NOTHING THAT WAS THERE: 'Below w.heap.size w w'' (Derived/Below.lean: '.refl', '.alloc', '.drew', '.setCell' at a new block, '.trans'). Open each 'IsRow' by 'rcases' AHEAD of 'go_enter'; part every test ahead of the walk. -/
theorem walk (a0 : Option Addr) (len0 cap0 : Nat) (z0 : List Int) (w : World) (w0 : IsRow .u8 w a0 len0 cap0 z0) :
    Calls Try.prog 3 #[.slice a0 len0 cap0] w fun e w' => e = .returned (.bool true) ∧ Below w.heap.size w w' := by
  have hr := rdB_of_row w0
  clear w0
  generalize List.take len0 z0 = cs at hr
  have HR := Lib.hid hr; clear hr
  by_cases hbig : len0 ≤ 4096
  · go_enter Try.func3, Try.ntmps3
    go_wp2_with fail
    refine (big_no _ _ _ _ hbig).mono ?_
    rintro e w' ⟨rfl, rfl⟩
    go_wp2_with fail
    refine (drawImageText_any _ _ _ cs _ HR.out (by omega)).mono ?_
    rintro e w1 ⟨v1, xs, rfl, o1, hxl, b1⟩
    obtain ⟨p1, c1, rfl, o1, -⟩ := o1.get
    have H : Held 2 w w1 _ := Held.start.make o1 b1
    clear o1 b1
    obtain ⟨ys, hrb, hys⟩ := hex_round xs
    have hyl := readImageText_len (nums (strOfNums (imageText xs)))
    rw [hrb] at hyl
    change ys.length ≤ 1024 at hyl
    have hts := hexText_size xs
    obtain ⟨t, ht⟩ : ∃ t, strOfNums (imageText xs) = t := ⟨_, rfl⟩
    rw [ht] at hrb hts
    have HT := Lib.hid ht; clear ht
    have HRB := Lib.hid hrb; clear hrb
    have HYS := Lib.hid hys; clear hys
    go_wp2_with fail
    refine (imageText_any _ _ _ _ (H.rd 0 rfl rfl) (by omega)).mono ?_
    rintro e w2 ⟨rfl, b2⟩
    replace H := H.still b2
    clear b2
    rw [HT.out]
    go_wp2_with fail
    refine (readImageText_any _ _ (by omega)).mono ?_
    rintro e w3 m3
    rw [HRB.out] at m3
    change MakesB 2 _ ys true _ _ at m3
    obtain ⟨p3, c3, rfl, o3, -, b3⟩ := m3.get
    replace H := H.make o3 b3
    clear o3 b3 m3
    go_wp2_with fail
    refine (drawReadImageText_any _ _ _ cs _ (rdB_later HR.out H.below) (by omega)).mono ?_
    rintro e w4 ⟨u, rfl, hul, b4⟩
    replace H := H.still b4
    clear b4
    have hql := readImageText_len (nums u)
    obtain ⟨q0, q1, hG⟩ : ∃ q0 q1, readImageText (nums u) = (q0, q1) := ⟨_, _, rfl⟩
    rw [hG] at hql
    change q0.length ≤ 1024 at hql
    have HG := Lib.hid hG; clear hG
    go_wp2_with fail
    refine (readImageText_any _ _ (by omega)).mono ?_
    rintro e w5 m5
    rw [HG.out] at m5
    change MakesB 2 _ q0 q1 _ _ at m5
    obtain ⟨p5, c5, rfl, o5, -, b5⟩ := m5.get
    replace H := H.make o5 b5
    clear o5 b5 m5
    go_wp2_with fail
    refine (sReadImageText_any _ _ (by omega)).mono ?_
    rintro e w6 m6
    rw [HG.out] at m6
    change MakesB 2 _ q0 q1 _ _ at m6
    obtain ⟨p6, c6, rfl, o6, -, b6⟩ := m6.get
    replace H := H.make o6 b6
    clear o6 b6 m6
    go_wp2_with fail
    refine (sImageText_any _ _ _ _ (H.rd 3 rfl rfl) (by omega)).mono ?_
    rintro e w7 ⟨rfl, b7⟩
    replace H := H.still b7
    clear b7
    rw [HT.out]
    go_wp2_with fail
    refine (sIsBytes_any _ _ _ _ _ (H.rd 3 rfl rfl) (by omega)).mono ?_
    rintro e w' ⟨rfl, rfl⟩
    by_cases hb : isBytes xs = true
    · have hyx := HYS.out hb
      subst hyx
      rw [hb]
      have HB := Lib.hid hb; clear hb
      go_wp2_with fail
      refine (like_yes _ _ _ _ _ _ _ _ (H.rd 2 rfl rfl) (H.rd 3 rfl rfl) (by omega)).mono ?_
      rintro e w8 ⟨rfl, b8⟩
      replace H := H.still b8
      clear b8
      go_wp2_with fail
      refine (like_yes _ _ _ _ _ _ _ _ (H.rd 1 rfl rfl) (H.rd 0 rfl rfl) (by omega)).mono ?_
      rintro e w9 ⟨rfl, b9⟩
      replace H := H.still b9
      clear b9
      rcases q1 with _ | _
      · go_wp2_with fail
        go_ret
        exact ⟨rfl, H.below⟩
      · have HU := Lib.hid (hex_again HG.out)
        have hue : (u.toList == u.toList) = true := by simp
        go_wp2_with fail
        refine (imageText_any _ _ _ _ (H.rd 1 rfl rfl) (by omega)).mono ?_
        rintro e w10 ⟨rfl, b10⟩
        replace H := H.still b10
        clear b10
        rw [HU.out]
        go_wp2_with fail
        go_ret
        exact ⟨rfl, H.below⟩
    · have hb' : isBytes xs = false := by simpa using hb
      rw [hb']
      have HB := Lib.hid hb'; clear hb hb'
      go_wp2_with fail
      refine (like_yes _ _ _ _ _ _ _ _ (H.rd 1 rfl rfl) (H.rd 0 rfl rfl) (by omega)).mono ?_
      rintro e w9 ⟨rfl, b9⟩
      replace H := H.still b9
      clear b9
      rcases q1 with _ | _
      · go_wp2_with fail
        go_ret
        exact ⟨rfl, H.below⟩
      · have HU := Lib.hid (hex_again HG.out)
        have hue : (u.toList == u.toList) = true := by simp
        go_wp2_with fail
        refine (imageText_any _ _ _ _ (H.rd 1 rfl rfl) (by omega)).mono ?_
        rintro e w10 ⟨rfl, b10⟩
        replace H := H.still b10
        clear b10
        rw [HU.out]
        go_wp2_with fail
        go_ret
        exact ⟨rfl, H.below⟩
  · go_enter Try.func3, Try.ntmps3
    go_wp2_with fail
    refine (big_yes _ _ _ _ hbig).mono ?_
    rintro e w' ⟨rfl, rfl⟩
    go_wp2
    go_ret
    exact ⟨rfl, Below.refl _ _⟩


end Go.Proofs.Ytljdkckoelgkbaa.fnImageText
