/-
  The walk of laws.FnSenders: at every input it returns true and writes nothing that was there.
-/
import Derived.Test.YtljdkckoelgkbaaGreatRows
import Derived.Test.YtljdkckoelgkbaaGreatPzA
import Derived.Test.YtljdkckoelgkbaaGreatPzN
import Derived.Test.YtljdkckoelgkbaaGreatPzM
import Derived.Test.YtljdkckoelgkbaaGreatPzZ
import Derived.Test.YtljdkckoelgkbaaGreatPzE
import Derived.Test.YtljdkckoelgkbaaGreatPzS
import Derived.Test.YtljdkckoelgkbaaGreatPzL
import Derived.Test.YtljdkckoelgkbaaGreatPzI
import Derived.Test.YtljdkckoelgkbaaGreatPzT
import Derived.Test.YtljdkckoelgkbaaGreatPzC
import Derived.Test.YtljdkckoelgkbaaGreatPzD
import Derived.Test.YtljdkckoelgkbaaGreatPzQ
import Derived.Test.YtljdkckoelgkbaaGreatPzB
import Derived.WalkKit
import Derived.ProofKit
import Derived.OpenShut
import Derived.ShutString
import Derived.ChangeOld
import Derived.Below
namespace Go.Proofs.YtljdkckoelgkbaaGreat.fnSenders
open Go.ChangeShapes Go.WideShapes Go.ChangeAt Go.RowKit
open Go.ChangeMaps (open_string shut_string)
set_option linter.unusedVariables false


/-- WHAT THE WALK IS TOLD OF A SLICE OF INTEGERS THAT CAME IN: it is nil; or it leads to a row of 'cap' cells, the numbers 'zs' (the first 'len' are its elements, the rest its spare room), each fitting its kind. -/
def IsRow (k : IntKind) (w : World) (a : Option Addr) (len cap : Nat) (zs : List Int) : Prop :=
  (a = none ∧ len = 0 ∧ cap = 0 ∧ zs = []) ∨
  ∃ x, a = some x ∧ len ≤ cap ∧ cap ≤ maxLen ∧ zs.length = cap ∧ (∀ i, i < zs.length → w.cell? (x.add i) = some (.int k (zs.getD i 0))) ∧ ∀ n ∈ zs, (Lit.int k n).wf = true

/-! ### STEP 1: THE WALK: the Go text returns true, AND WRITES NOTHING THAT WAS THERE: 'Below w.heap.size w w'' (Derived/Below.lean: '.refl', '.alloc', '.drew', '.setCell' at a new block, '.trans'). Open each 'IsRow' by 'rcases' AHEAD of 'go_enter'; part every test ahead of the walk. -/
set_option maxRecDepth 100000 in
theorem walk (a0 : Option Addr) (len0 cap0 : Nat) (z0 : List Int) (w : World) (w0 : IsRow .u8 w a0 len0 cap0 z0) :
    Calls Tryz.prog 4 #[.slice a0 len0 cap0] w fun e w' => e = .returned (.bool true) ∧ Below w.heap.size w w' := by
  have hr := rdB_of_row w0
  clear w0
  generalize List.take len0 z0 = xs0 at hr
  have HR := Lib.hid hr; clear hr
  by_cases hbig : len0 ≤ 4096
  rotate_left
  · go_enter Tryz.func4, Tryz.ntmps4
    go_wp2_with fail
    refine (big_yes _ _ _ _ hbig).mono ?_
    rintro e w' ⟨rfl, rfl⟩
    go_wp2
    go_ret
    exact ⟨rfl, Below.refl _ _⟩
  go_enter Tryz.func4, Tryz.ntmps4
  go_wp2_with fail
  refine (big_no _ _ _ _ hbig).mono ?_
  rintro e w' ⟨rfl, rfl⟩
  go_wp2_with fail
  refine (drawSenderOf_any _ _ _ xs0 _ HR.out (by omega)).mono ?_
  rintro e w1 ⟨v, k, r, s, hwf, rfl, hrd, han, b1⟩
  obtain ⟨n, q, hC⟩ : ∃ n q, senderOf v.me k r s = (n, q) := ⟨_, _, rfl⟩
  have HI := Lib.hid (fun W (hW : RdMe W v) => (show Calls Tryz.prog 17 #[mvVal v, .int .i64 k, .int .i64 r, .int .i64 s] W fun e w' => e = .returned (.tuple #[.int .i64 n, .int .i64 q]) ∧ Below W.heap.size W w' from by have h := senderOf_any v k r s W hW hwf; rwa [hC] at h))
  have HJ := Lib.hid (fun W (hW : RdMe W v) => (show Calls Tryz.prog 18 #[mvVal v, .int .i64 k, .int .i64 r, .int .i64 s] W fun e w' => e = .returned (.tuple #[.int .i64 n, .int .i64 q]) ∧ Below W.heap.size W w' from by have h := sSenderOf_any v k r s W hW; rwa [hC] at h))
  have HLAW := Lib.hid (fun (h0 : q = 0) => sender_law (m := v.me) (k := k) (r := r) (s := s) (n := n) (by rw [hC, h0]))
  have HS := Lib.hid ((Sh.start (T := 28) b1).push hrd)
  have hnn : (n != n) = false := bne_self_eq_false _
  have hqq : (q != q) = false := bne_self_eq_false _
  clear hrd han b1 hC hwf
  unfold mvVal at HI HJ ⊢
  go_upto_region 4 with fail
  generalize w1.alloc (.cells #[.int .i64 v.id, .slice v.no v.n.length v.nc, .slice v.mo v.cs.length v.mc, .slice v.eo v.e.length v.ec] 28) = wx at HS ⊢
  generalize w1.heap.size = B3 at HS ⊢
  obtain ⟨z0, z1, z2, z3⟩ := (HS.out.b 0 rfl).all
  go_wp2_with fail
  refine (HI.out _ (HS.out.r 0 rfl)).mono ?_
  rintro e wa1 ⟨rfl, b⟩
  have HT := Lib.hid (HS.out.call b)
  clear HS
  have HS := HT
  clear HT
  clear z0 z1 z2 z3
  clear b HI
  obtain ⟨z0, z1, z2, z3⟩ := (HS.out.b 0 rfl).all
  go_wp2_with fail
  refine (HJ.out _ (HS.out.r 0 rfl)).mono ?_
  rintro e wa2 ⟨rfl, b⟩
  have HT := Lib.hid (HS.out.call b)
  clear HS
  have HS := HT
  clear HT
  clear z0 z1 z2 z3
  clear b HJ
  go_wp2_with fail
  refine (drawWithId_any _ _ _ xs0 _ (rdB_later HR.out HS.out.below) (by omega)).mono ?_
  rintro e w4 ⟨u, i, rfl, hrd, han, b⟩
  obtain ⟨m2, c, hW⟩ : ∃ m2 c, withId u.me i = (m2, c) := ⟨_, _, rfl⟩
  have hsm : Small m2 := by have h := small_with han.small i; rwa [hW] at h
  have hsu := han.small
  have HWI := Lib.hid (fun W (hX : RdMe W u) => (show Calls Tryz.prog 20 #[mvVal u, .int .i64 i] W (GivesMe2 W m2 c) from by have h := withId_any u i W hX; rwa [hW] at h))
  have HWJ := Lib.hid (fun W (hX : RdMe W u) => (show Calls Tryz.prog 21 #[mvVal u, .int .i64 i] W (GivesMe2 W m2 c) from by have h := swithId_any u i W hX; rwa [hW] at h))
  have HBK := Lib.hid (fun (h0 : c = 0) => with_back (m := u.me) (id := i) (x := m2) (by rw [hW, h0]))
  have hcc : (c != c) = false := bne_self_eq_false _
  have HT := Lib.hid ((HS.out.call b).push hrd)
  clear HS
  have HS := HT
  clear HT
  clear hrd han b hW HR
  unfold mvVal at HWI HWJ ⊢
  go_upto_region 7 with fail
  generalize w4.alloc (.cells #[.int .i64 u.id, .slice u.no u.n.length u.nc, .slice u.mo u.cs.length u.mc, .slice u.eo u.e.length u.ec] 28) = wy at HS ⊢
  generalize w4.heap.size = B11 at HS ⊢
  obtain ⟨z0, z1, z2, z3⟩ := (HS.out.b 0 rfl).all
  go_wp2_with fail
  refine (HWI.out _ (HS.out.r 0 rfl)).mono ?_
  rintro e w5 ⟨y, hy, rfl, ho, b⟩
  have HT := Lib.hid ((HS.out.call b).push (ho.rd (by rw [hy]; exact hsm)))
  clear HS
  have HS := HT
  clear HT
  clear z0 z1 z2 z3
  clear ho b HWI
  unfold mvVal
  go_upto_region 8 with fail
  generalize w5.alloc (.cells #[.int .i64 y.id, .slice y.no y.n.length y.nc, .slice y.mo y.cs.length y.mc, .slice y.eo y.e.length y.ec] 28) = wxw5 at HS ⊢
  generalize w5.heap.size = B13 at HS ⊢
  obtain ⟨z0, z1, z2, z3⟩ := (HS.out.b 1 rfl).all
  go_wp2_with fail
  refine (HWJ.out _ (HS.out.r 1 rfl)).mono ?_
  rintro e w6 ⟨x, hx, rfl, ho, b⟩
  have HT := Lib.hid ((HS.out.call b).push (ho.rd (by rw [hx]; exact hsm)))
  clear HS
  have HS := HT
  clear HT
  clear z0 z1 z2 z3
  clear ho b HWJ
  unfold mvVal
  go_upto_region 9 with fail
  generalize w6.alloc (.cells #[.int .i64 x.id, .slice x.no x.n.length x.nc, .slice x.mo x.cs.length x.mc, .slice x.eo x.e.length x.ec] 28) = wxw6 at HS ⊢
  generalize w6.heap.size = B15 at HS ⊢
  obtain ⟨y0, y1, y2, y3⟩ := (HS.out.b 1 rfl).all
  obtain ⟨x0, x1, x2, x3⟩ := (HS.out.b 0 rfl).all
  go_wp2_with fail
  refine (likeMedls_yes y x _ (HS.out.r 1 rfl) (HS.out.r 0 rfl) (hy.trans hx.symm)).mono ?_
  rintro e wa3 ⟨rfl, b⟩
  have HT := Lib.hid (HS.out.call b)
  clear HS
  have HS := HT
  clear HT
  clear b
  clear y0 y1 y2 y3 x0 x1 x2 x3
  go_wp2_with fail
  refine (small_any _).mono ?_
  rintro e w8 ⟨t, ht, rfl, ho, b⟩
  have HRT := Lib.hid (ho.rd (by rw [ht]; exact small_small))
  have HT := Lib.hid (HS.out.call b)
  clear HS
  have HS := HT
  clear HT
  clear b ho
  unfold mvVal
  go_wp2_with fail
  refine (ssmall_any _).mono ?_
  rintro e w9 ⟨t', ht', rfl, ho, b⟩
  have HRU := Lib.hid (ho.rd (by rw [ht']; exact small_small))
  have HRV := Lib.hid (HRT.out.below b)
  have HT := Lib.hid (HS.out.call b)
  clear HS
  have HS := HT
  clear HT
  clear b ho HRT
  unfold mvVal
  go_wp2_with fail
  refine (likeMedls_yes t t' _ HRV.out HRU.out (ht.trans ht'.symm)).mono ?_
  rintro e wa4 ⟨rfl, b⟩
  have HT := Lib.hid (HS.out.call b)
  clear HS
  have HS := HT
  clear HT
  clear b HRU HRV ht ht'
  by_cases hc : c = 0
  rotate_left
  · have hcb : (c == 0) = false := by simp [hc]
    clear HBK hc hcc
    by_cases hq : q = 0
    rotate_left
    · have hqb : (q != 0) = true := by simp [hq]
      clear HLAW hq
      go_wp2_with fail
      go_ret
      exact ⟨rfl, HS.out.below⟩
    obtain ⟨hav, hhm⟩ := HLAW.out hq
    have hqb : (q != 0) = false := by simp [hq]
    clear HLAW hq hqq
    have HAV := Lib.hid (fun W (hW : RdMe W v) => (show Calls Tryz.prog 25 #[.slice v.no v.n.length v.nc] W fun e w' => e = .returned (.tuple #[.int .i64 (((actv v.me : Nat) : Int)), .int .i64 0]) ∧ Below W.heap.size W w' from by have h := activeVector_any v.no v.n.length v.nc v.n W hW.rn hW.nle hW.ncap hW.ns; rwa [show activeVector v.n = (((actv v.me : Nat) : Int), 0) from hav] at h))
    generalize ((actv v.me : Nat) : Int) = A at HAV hhm
    clear hav
    obtain ⟨z0, z1, z2, z3⟩ := (HS.out.b 3 rfl).all
    go_wp2_with fail
    refine (HAV.out _ (HS.out.r 3 rfl)).mono ?_
    rintro e wb1 ⟨rfl, b⟩
    have HT := Lib.hid (HS.out.call b)
    clear HS
    have HS := HT
    clear HT
    clear z0 z1 z2 z3
    clear b HAV
    go_wp2_with fail
    refine (hasMember_any A n _).mono ?_
    rintro e wb2 ⟨rfl, b⟩
    rw [hhm]
    have HT := Lib.hid (HS.out.call b)
    clear HS
    have HS := HT
    clear HT
    clear b hhm
    go_wp2_with fail
    go_ret
    exact ⟨rfl, HS.out.below⟩
  · have hcb : (c == 0) = true := by simp [hc]
    have hbk := HBK.out hc
    clear HBK hc hcc
    have HWK := Lib.hid (fun W (hX : RdMe W y) => (show Calls Tryz.prog 20 #[mvVal y, .int .i64 u.id] W (GivesMe2 W u.me 0) from by have h := withId_any y u.id W hX; rwa [hy, show withId m2 u.id = (u.me, 0) from hbk] at h))
    clear hbk
    unfold mvVal at HWK
    obtain ⟨y0, y1, y2, y3⟩ := (HS.out.b 1 rfl).all
    obtain ⟨u0, u1, u2, u3⟩ := (HS.out.b 2 rfl).all
    go_wp2_with fail
    refine (HWK.out _ (HS.out.r 1 rfl)).mono ?_
    rintro e wk ⟨p, hp, rfl, ho, b⟩
    have HT := Lib.hid ((HS.out.call b).push (ho.rd (by rw [hp]; exact hsu)))
    clear HS
    have HS := HT
    clear HT
    clear y0 y1 y2 y3 u0 u1 u2 u3
    clear ho b HWK
    unfold mvVal
    go_upto_region 13 with fail
    generalize wk.alloc (.cells #[.int .i64 p.id, .slice p.no p.n.length p.nc, .slice p.mo p.cs.length p.mc, .slice p.eo p.e.length p.ec] 28) = wxk at HS ⊢
    generalize wk.heap.size = B17 at HS ⊢
    obtain ⟨p0, p1, p2, p3⟩ := (HS.out.b 0 rfl).all
    obtain ⟨u0, u1, u2, u3⟩ := (HS.out.b 3 rfl).all
    go_wp2_with fail
    refine (likeMedls_yes p u _ (HS.out.r 0 rfl) (HS.out.r 3 rfl) hp).mono ?_
    rintro e wl ⟨rfl, b⟩
    have HT := Lib.hid (HS.out.call b)
    clear HS
    have HS := HT
    clear HT
    clear b hp
    clear p0 p1 p2 p3 u0 u1 u2 u3
    by_cases hq : q = 0
    rotate_left
    · have hqb : (q != 0) = true := by simp [hq]
      clear HLAW hq
      go_wp2_with fail
      go_ret
      exact ⟨rfl, HS.out.below⟩
    obtain ⟨hav, hhm⟩ := HLAW.out hq
    have hqb : (q != 0) = false := by simp [hq]
    clear HLAW hq hqq
    have HAV := Lib.hid (fun W (hW : RdMe W v) => (show Calls Tryz.prog 25 #[.slice v.no v.n.length v.nc] W fun e w' => e = .returned (.tuple #[.int .i64 (((actv v.me : Nat) : Int)), .int .i64 0]) ∧ Below W.heap.size W w' from by have h := activeVector_any v.no v.n.length v.nc v.n W hW.rn hW.nle hW.ncap hW.ns; rwa [show activeVector v.n = (((actv v.me : Nat) : Int), 0) from hav] at h))
    generalize ((actv v.me : Nat) : Int) = A at HAV hhm
    clear hav
    obtain ⟨z0, z1, z2, z3⟩ := (HS.out.b 4 rfl).all
    go_wp2_with fail
    refine (HAV.out _ (HS.out.r 4 rfl)).mono ?_
    rintro e wb1 ⟨rfl, b⟩
    have HT := Lib.hid (HS.out.call b)
    clear HS
    have HS := HT
    clear HT
    clear z0 z1 z2 z3
    clear b HAV
    go_wp2_with fail
    refine (hasMember_any A n _).mono ?_
    rintro e wb2 ⟨rfl, b⟩
    rw [hhm]
    have HT := Lib.hid (HS.out.call b)
    clear HS
    have HS := HT
    clear HT
    clear b hhm
    go_wp2_with fail
    go_ret
    exact ⟨rfl, HS.out.below⟩


end Go.Proofs.YtljdkckoelgkbaaGreat.fnSenders
