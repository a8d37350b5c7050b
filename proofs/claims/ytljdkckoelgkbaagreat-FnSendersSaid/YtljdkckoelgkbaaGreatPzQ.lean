/-
  Contracts of the program's, the model's and the laws' functions, and plain mathematics, on which a proof of this claim stands (part Q).
-/

import Derived.Test.YtljdkckoelgkbaaGreatPzD
import Derived.Test.YtljdkckoelgkbaaGreatPzI
import Derived.Test.YtljdkckoelgkbaaGreatPzN
import Derived.Test.YtljdkckoelgkbaaGreatPzM
import Derived.Test.YtljdkckoelgkbaaGreatPzS
import Derived.Test.YtljdkckoelgkbaaGreatPzT
import Derived.Test.YtljdkckoelgkbaaGreatPzC
import Derived.Test.YtljdkckoelgkbaaGreatPzL
namespace Go.Proofs.YtljdkckoelgkbaaGreat
section
open Go.RowKit
structure Tw (T : Nat) (w W : World) (v u : Mv) : Prop where
  a1 : MvAt T W w.heap.size v
  a2 : MvAt T W (w.heap.size + 1) u
  below : Below w.heap.size w W
theorem Tw.start {T : Nat} (w : World) (v u : Mv) : Tw T w ((w.alloc (.cells #[.int .i64 v.id, .slice v.no v.n.length v.nc, .slice v.mo v.cs.length v.mc, .slice v.eo v.e.length v.ec] T)).alloc (.cells #[.int .i64 u.id, .slice u.no u.n.length u.nc, .slice u.mo u.cs.length u.mc, .slice u.eo u.e.length u.ec] T)) v u := by
  have h1 : MvAt T (w.alloc (.cells #[.int .i64 v.id, .slice v.no v.n.length v.nc, .slice v.mo v.cs.length v.mc, .slice v.eo v.e.length v.ec] T)) w.heap.size v := MvAt.new w
  have h2 := MvAt.new (T := T) (v := u) (w.alloc (.cells #[.int .i64 v.id, .slice v.no v.n.length v.nc, .slice v.mo v.cs.length v.mc, .slice v.eo v.e.length v.ec] T))
  rw [World.size_alloc] at h2
  exact ⟨h1.below ((Below.refl _ _).alloc (Nat.le_refl _) _) h1.lt, h2, ((Below.refl _ _).alloc (Nat.le_refl _) _).alloc (by rw [World.size_alloc]; omega) _⟩
theorem Tw.call {T : Nat} {w W W' : World} {v u : Mv} (h : Tw T w W v u) (b : Below W.heap.size W W') : Tw T w W' v u := ⟨h.a1.below b h.a1.lt, h.a2.below b h.a2.lt, below_two h.below b⟩
set_option linter.unusedSimpArgs false in
set_option maxRecDepth 100000 in
set_option maxHeartbeats 4000000 in
theorem likeMedls_yes (v u : Mv) (w : World) (hv : RdMe w v) (hu : RdMe w u) (he : v.me = u.me) :
    Calls Tryz.prog 22 #[mvVal v, mvVal u] w fun e w' => e = .returned (.bool true) ∧ Below w.heap.size w w' := by
  have e0 : v.id = u.id := congrArg Me.id he
  have e1 : v.n = u.n := congrArg Me.nodes he
  have e2 : mds v.cs = mds u.cs := congrArg Me.modes he
  have e3 : v.e = u.e := congrArg Me.slots he
  have HX0 := Lib.hid (Tw.start (T := 28) w v u)
  have HN := Lib.hid (fun W (hW : Below w.heap.size w W) => likeNodes_yes v.no u.no v.n.length v.nc u.nc v.n W (hv.below hW).rn (by have h := (hu.below hW).rn; rwa [← e1] at h) (by have := hv.nl; omega) hv.nle (by have := hu.nle; rwa [← e1] at this))
  have HM := Lib.hid (fun W (hW : Below w.heap.size w W) => likeModes_two v.mo u.mo v.mc u.mc v.cs u.cs W (hv.below hW).rm (hu.below hW).rm e2 (by have := hv.ml; omega))
  have HE := Lib.hid (fun W (hW : Below w.heap.size w W) => likeSlots_yes v.eo u.eo v.e.length v.ec u.ec v.e W (hv.below hW).re (by have h := (hu.below hW).re; rwa [← e3] at h) (by have := hv.el; omega) hv.ele (by have := hu.ele; rwa [← e3] at this))
  obtain ⟨a, n, no, nc, cs, mo, mc, e, eo, ec⟩ := v
  obtain ⟨a', n', no', nc', cs', mo', mc', e', eo', ec'⟩ := u
  dsimp only at e0 e1 e2 e3
  subst e0 e1 e3
  clear hv hu he e2
  dsimp only at HN HM HE
  have hid : (a == a) = true := by simp
  unfold mvVal
  dsimp only
  go_enter Tryz.func22, Tryz.ntmps22
  go_upto_region 1 with fail
  have HX00 := Lib.hid HX0.out
  dsimp only at HX00
  clear HX0
  generalize (w.alloc (.cells #[.int .i64 a, .slice no n.length nc, .slice mo cs.length mc, .slice eo e.length ec] 28)).alloc (.cells #[.int .i64 a, .slice no' n.length nc', .slice mo' cs'.length mc', .slice eo' e.length ec'] 28) = w1 at HX00 ⊢
  have HX0 := HX00
  clear HX00
  obtain ⟨z0, z1, z2, z3⟩ := HX0.out.a1.all
  obtain ⟨y0, y1, y2, y3⟩ := HX0.out.a2.all
  dsimp only at z0 z1 z2 z3 y0 y1 y2 y3
  go_wp2_with fail
  refine (HN.out _ HX0.out.below).mono ?_
  rintro e w2 ⟨rfl, b⟩
  have HX1 := Lib.hid (HX0.out.call b)
  clear z0 z1 z2 z3 y0 y1 y2 y3 b HX0 HN
  obtain ⟨z0, z1, z2, z3⟩ := HX1.out.a1.all
  obtain ⟨y0, y1, y2, y3⟩ := HX1.out.a2.all
  dsimp only at z0 z1 z2 z3 y0 y1 y2 y3
  go_wp2_with fail
  refine (HM.out _ HX1.out.below).mono ?_
  rintro e w3 ⟨rfl, b⟩
  have HX2 := Lib.hid (HX1.out.call b)
  clear z0 z1 z2 z3 y0 y1 y2 y3 b HX1 HM
  obtain ⟨z0, z1, z2, z3⟩ := HX2.out.a1.all
  obtain ⟨y0, y1, y2, y3⟩ := HX2.out.a2.all
  dsimp only at z0 z1 z2 z3 y0 y1 y2 y3
  go_wp2_with fail
  refine (HE.out _ HX2.out.below).mono ?_
  rintro e w4 ⟨rfl, b⟩
  have HX3 := Lib.hid (HX2.out.call b)
  clear z0 z1 z2 z3 y0 y1 y2 y3 b HX2 HE
  obtain ⟨z0, z1, z2, z3⟩ := HX3.out.a1.all
  obtain ⟨y0, y1, y2, y3⟩ := HX3.out.a2.all
  go_wp2_with fail
  go_ret
  exact ⟨rfl, HX3.out.below⟩
end

section
open Go.RowKit
structure Sh (T : Nat) (w W : World) (L : List (Nat × Mv)) : Prop where
  at_ : ∀ p ∈ L, MvAt T W p.1 p.2 ∧ RdMe W p.2
  below : Below w.heap.size w W
section
variable {T : Nat} {w W W' : World} {L : List (Nat × Mv)}
theorem Sh.start (b : Below w.heap.size w W) : Sh T w W [] := ⟨fun p hp => absurd hp (by simp), b⟩
theorem Sh.call (h : Sh T w W L) (b : Below W.heap.size W W') : Sh T w W' L :=
  ⟨fun p hp => ⟨(h.at_ p hp).1.below b (h.at_ p hp).1.lt, (h.at_ p hp).2.below b⟩, below_two h.below b⟩
theorem Sh.push (h : Sh T w W L) {v : Mv} (hv : RdMe W v) : Sh T w (W.alloc (.cells #[.int .i64 v.id, .slice v.no v.n.length v.nc, .slice v.mo v.cs.length v.mc, .slice v.eo v.e.length v.ec] T)) ((W.heap.size, v) :: L) := by
  have b := (Below.refl W.heap.size W).alloc (Nat.le_refl _) (.cells #[.int .i64 v.id, .slice v.no v.n.length v.nc, .slice v.mo v.cs.length v.mc, .slice v.eo v.e.length v.ec] T)
  refine ⟨fun p hp => ?_, (h.call b).below⟩
  rcases List.mem_cons.1 hp with rfl | hp
  · exact ⟨MvAt.new W, hv.below b⟩
  · exact (h.call b).at_ p hp
theorem Sh.b (h : Sh T w W L) (i : Nat) {B : Nat} {v : Mv} (hi : L[i]? = some (B, v)) : MvAt T W B v := (h.at_ _ (List.mem_of_getElem? hi)).1
theorem Sh.r (h : Sh T w W L) (i : Nat) {B : Nat} {v : Mv} (hi : L[i]? = some (B, v)) : RdMe W v := (h.at_ _ (List.mem_of_getElem? hi)).2
end
theorem small_small : Small smallMe := szMe_ok (by decide)
end
end Go.Proofs.YtljdkckoelgkbaaGreat
