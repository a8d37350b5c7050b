/-
  Contracts of the program's, the model's and the laws' functions, and plain mathematics, on which a proof of this claim stands (part L).
-/

import Derived.Test.YtfoflfmpbbpbgaaPqA
import Derived.Test.YtfoflfmpbbpbgaaPqM
import Derived.Test.YtfoflfmpbbpbgaaPqN
import Derived.Test.YtfoflfmpbbpbgaaPqS
namespace Go.Proofs.Ytfoflfmpbbpbgaa
section
open Go.RowKit
def szMe (m : Me) : Int :=
  if szS m.nodes 1048576 < 0 then -1 else if mzS m.modes (szS m.nodes 1048576) < 0 then -1 else if szL m.slots (mzS m.modes (szS m.nodes 1048576)) < 0 then -1 else szL m.slots (mzS m.modes (szS m.nodes 1048576))
theorem mzS_okG {t : List Md} {M : Int} (hM : M ≤ 1048576) (h : 0 ≤ mzS t M) : t.length ≤ 1048576 ∧ mTot t ≤ 3145728 ∧ (∀ x ∈ t, x.next.length ≤ 1048576) ∧ mzS t M ≤ 1048576 := by
  unfold mzS at h ⊢
  split at h
  · omega
  · rename_i hc
    rw [if_neg hc]
    obtain ⟨h1, h2⟩ := mzGo_tot _ _ h
    have h3 : mzGo t (M - t.length) ≤ 1048576 := by
      rcases mzGo_neg t (M - t.length) (by omega) with h4 | h4
      · omega
      · omega
    exact ⟨by omega, by omega, fun x hx => by have := h2 x hx; omega, h3⟩
theorem szL_okG {t : List Sl} {M : Int} (hM : M ≤ 1048576) (h : 0 ≤ szL t M) : t.length ≤ 1048576 := by
  unfold szL at h
  split at h
  · omega
  · omega
structure Small (m : Me) : Prop where
  nl : m.nodes.length ≤ 1048576
  ns : smallN m.nodes
  ml : m.modes.length ≤ 1048576
  mt : mTot m.modes ≤ 3145728
  ms : ∀ x ∈ m.modes, x.next.length ≤ 1048576
  el : m.slots.length ≤ 1048576
theorem szMe_ok {m : Me} (h : ¬ szMe m < 0) : Small m := by
  unfold szMe at h
  split at h
  · omega
  · rename_i h1
    split at h
    · omega
    · rename_i h2
      split at h
      · omega
      · rename_i h3
        have hn := szS_ok (t := m.nodes) (by omega)
        have hle : szS m.nodes 1048576 ≤ 1048576 := by rcases szS_neg m.nodes with e | e <;> omega
        have hm := mzS_okG hle (t := m.modes) (by omega)
        have he := szL_okG hm.2.2.2 (t := m.slots) (by omega)
        exact ⟨hn.1, hn.2, hm.1, hm.2.1, hm.2.2.1, he⟩
theorem Small.rd {w : World} {v : Mv} (hs : Small v.me) (h : MeRow w v) : RdMe w v := by
  have e1 : v.me.modes.length = v.cs.length := mds_len v.cs
  have h1 := h.n; have h2 := h.m; have h3 := h.e
  unfold NdRow maxLen at h1; unfold MdRow maxLen at h2; unfold SlRow maxLen at h3
  exact ⟨h1.2.2.1, h2.2.2, h3.2.2.1, h1.1, by omega, h2.1, by omega, h3.1, by omega, hs.nl, by have := hs.ml; omega, hs.el, hs.ns, fun c hc => hs.ms c.md (List.mem_map_of_mem hc)⟩
end

section
open Go.RowKit
abbrev EN : Nat := 32
abbrev EM : Nat := 35
abbrev EI : Nat := 2
abbrev ES : Nat := 39
def Mv.vn (v : Mv) : Value := .slice v.no v.n.length v.nc
def Mv.vm (v : Mv) : Value := .slice v.mo v.cs.length v.mc
def Mv.ve (v : Mv) : Value := .slice v.eo v.e.length v.ec
structure OwnMe (w : World) (base : Nat) (v : Mv) : Prop where
  n : OwnN EN w base v.vn v.n
  m : OwnM EM EI w base v.vm v.cs
  e : OwnE ES w base v.ve v.e
def GivesMe (w : World) (m : Me) (e : Ending) (w' : World) : Prop := ∃ v : Mv, v.me = m ∧ e = .returned (mvVal v) ∧ OwnMe w' w.heap.size v ∧ Below w.heap.size w w'
def mes (v : Mv) : List It := [nds EN v.vn v.n] ++ (mis EM EI v.vm v.cs ++ [itsE ES v.ve v.e])
section
variable {w w' w0 : World} {base : Nat} {v : Mv}
theorem OwnMe.below (h : OwnMe w base v) (hb : Below w.heap.size w w') : OwnMe w' base v := ⟨h.n.below hb, h.m.below hb, h.e.below hb⟩
theorem OwnMe.rd (h : OwnMe w base v) (hs : Small v.me) : RdMe w v := by
  have e1 : v.me.modes.length = v.cs.length := mds_len v.cs
  have h1 : RdN w v.no v.n.length v.n := by
    obtain ⟨ao, cap, e, -, r⟩ := h.n.get
    cases e; exact r
  have h2 : RdM w v.mo v.cs.length v.cs := by
    obtain ⟨ao, cap, e, -, r⟩ := h.m.get
    cases e; exact r
  have h3 : RdE w v.eo v.e.length v.e := by
    obtain ⟨ao, cap, e, -, r⟩ := h.e.get
    cases e; exact r
  exact ⟨h1, h2, h3, h.n.cap.1, h.n.cap.2, h.m.cap.1, h.m.cap.2, h.e.cap.1, h.e.cap.2, hs.nl, by have := hs.ml; omega, hs.el, hs.ns, fun c hc => hs.ms c.md (List.mem_map_of_mem hc)⟩
theorem OwnMe.items (h : OwnMe w base v) : (∀ p ∈ mes v, w.ownsRow base p.E p.sz p.v p.n p.cells) ∧ (mes v).Pairwise fun p q => ∀ k, p.v.ownBlock = some k → q.v.ownBlock ≠ some k := by
  obtain ⟨hm1, hm2⟩ := h.m.items (show EM ≠ EI by decide)
  have hnx : ∀ p ∈ mis EM EI v.vm v.cs, p.E = EM ∨ p.E = EI := fun p hp => by
    rcases List.mem_cons.1 hp with rfl | hp
    · exact .inl rfl
    · obtain ⟨c, -, rfl⟩ := List.mem_map.1 hp
      exact .inr rfl
  refine ⟨fun p hp => ?_, ?_⟩
  · rcases List.mem_append.1 hp with hp | hp
    · rw [List.mem_singleton] at hp; subst hp; exact h.n
    · rcases List.mem_append.1 hp with hp | hp
      · exact hm1 p hp
      · rw [List.mem_singleton] at hp; subst hp; exact h.e
  · unfold mes
    rw [List.pairwise_append, List.pairwise_append]
    refine ⟨List.pairwise_singleton _ _, ⟨hm2, List.pairwise_singleton _ _, fun p hp q hq k e1 e2 => ?_⟩, fun p hp q hq k e1 e2 => ?_⟩
    · rw [List.mem_singleton] at hq; subst hq
      exact rows_ne (hm1 p hp) (show w.ownsRow base ES 8 v.ve _ _ from h.e) (by rcases hnx p hp with e | e <;> rw [e] <;> decide) k e1 e2
    · rw [List.mem_singleton] at hp; subst hp
      rcases List.mem_append.1 hq with hq | hq
      · exact rows_ne (show w.ownsRow base EN 4 v.vn _ _ from h.n) (hm1 q hq) (by rcases hnx q hq with e | e <;> rw [e] <;> decide) k e1 e2
      · rw [List.mem_singleton] at hq; subst hq
        exact rows_ne (show w.ownsRow base EN 4 v.vn _ _ from h.n) (show w.ownsRow base ES 8 v.ve _ _ from h.e) (by decide) k e1 e2
theorem Hold.makeMe {L : List It} (h : Hold w0 w L) (o : OwnMe w' w.heap.size v) (b : Below w.heap.size w w') : Hold w0 w' (mes v ++ L) := h.makeL _ o.items.1 o.items.2 b
end
section
variable {w W W' : World} {T b : Nat} {v : Mv}
theorem MvAt.set0 (h : MvAt T w b v) (y : Int) : MvAt T (w.setCell ⟨b, 0, none⟩ (.int .i64 y)) b ⟨y, v.n, v.no, v.nc, v.cs, v.mo, v.mc, v.e, v.eo, v.ec⟩ := by
  have := heap_setCell_same w b 0 _ _ (.int .i64 y) h
  simpa [MvAt] using this
theorem MvAt.set1 (h : MvAt T w b v) (n : List Nd) (no : Option Addr) (nc : Nat) : MvAt T (w.setCell ⟨b, 1, none⟩ (.slice no n.length nc)) b ⟨v.id, n, no, nc, v.cs, v.mo, v.mc, v.e, v.eo, v.ec⟩ := by
  have := heap_setCell_same w b 1 _ _ (.slice no n.length nc) h
  simpa [MvAt] using this
theorem MvAt.set2 (h : MvAt T w b v) (cs : List Mc) (mo : Option Addr) (mc : Nat) : MvAt T (w.setCell ⟨b, 2, none⟩ (.slice mo cs.length mc)) b ⟨v.id, v.n, v.no, v.nc, cs, mo, mc, v.e, v.eo, v.ec⟩ := by
  have := heap_setCell_same w b 2 _ _ (.slice mo cs.length mc) h
  simpa [MvAt] using this
theorem MvAt.set3 (h : MvAt T w b v) (e : List Sl) (eo : Option Addr) (ec : Nat) : MvAt T (w.setCell ⟨b, 3, none⟩ (.slice eo e.length ec)) b ⟨v.id, v.n, v.no, v.nc, v.cs, v.mo, v.mc, e, eo, ec⟩ := by
  have := heap_setCell_same w b 3 _ _ (.slice eo e.length ec) h
  simpa [MvAt] using this
def setMv (w : World) (b : Nat) (v : Mv) : World := (((w.setCell ⟨b, 0, none⟩ (.int .i64 v.id)).setCell ⟨b, 1, none⟩ (.slice v.no v.n.length v.nc)).setCell ⟨b, 2, none⟩ (.slice v.mo v.cs.length v.mc)).setCell ⟨b, 3, none⟩ (.slice v.eo v.e.length v.ec)
theorem MvAt.put {y : Mv} (h : MvAt T w b y) (v : Mv) : MvAt T (setMv w b v) b v := (((h.set0 v.id).set1 v.n v.no v.nc).set2 v.cs v.mo v.mc).set3 v.e v.eo v.ec
end
set_option maxRecDepth 100000 in
set_option maxHeartbeats 4000000 in
theorem eqMe_yes (a b : Mv) (w : World) (ha : RdMe w a) (hb : RdMe w b) (he : a.me = b.me) :
    Calls Try.prog 6 #[mvVal a, mvVal b] w fun e w' => e = .returned (.bool true) ∧ Below w.heap.size w w' := by
  have b1 : Below w.heap.size w (w.alloc (.cells #[.int .i64 a.id, .slice a.no a.n.length a.nc, .slice a.mo a.cs.length a.mc, .slice a.eo a.e.length a.ec] 26)) := (Below.refl _ _).alloc (Nat.le_refl _) _
  have b2 : Below (w.alloc (.cells #[.int .i64 a.id, .slice a.no a.n.length a.nc, .slice a.mo a.cs.length a.mc, .slice a.eo a.e.length a.ec] 26)).heap.size (w.alloc (.cells #[.int .i64 a.id, .slice a.no a.n.length a.nc, .slice a.mo a.cs.length a.mc, .slice a.eo a.e.length a.ec] 26)) ((w.alloc (.cells #[.int .i64 a.id, .slice a.no a.n.length a.nc, .slice a.mo a.cs.length a.mc, .slice a.eo a.e.length a.ec] 26)).alloc (.cells #[.int .i64 b.id, .slice b.no b.n.length b.nc, .slice b.mo b.cs.length b.mc, .slice b.eo b.e.length b.ec] 26)) := (Below.refl _ _).alloc (Nat.le_refl _) _
  have HB := Lib.hid (below_two b1 b2)
  have HA := Lib.hid (((MvAt.new w).below b2 (by simp)) : MvAt 26 ((w.alloc (.cells #[.int .i64 a.id, .slice a.no a.n.length a.nc, .slice a.mo a.cs.length a.mc, .slice a.eo a.e.length a.ec] 26)).alloc (.cells #[.int .i64 b.id, .slice b.no b.n.length b.nc, .slice b.mo b.cs.length b.mc, .slice b.eo b.e.length b.ec] 26)) w.heap.size a)
  have hbb : MvAt 26 ((w.alloc (.cells #[.int .i64 a.id, .slice a.no a.n.length a.nc, .slice a.mo a.cs.length a.mc, .slice a.eo a.e.length a.ec] 26)).alloc (.cells #[.int .i64 b.id, .slice b.no b.n.length b.nc, .slice b.mo b.cs.length b.mc, .slice b.eo b.e.length b.ec] 26)) (w.alloc (.cells #[.int .i64 a.id, .slice a.no a.n.length a.nc, .slice a.mo a.cs.length a.mc, .slice a.eo a.e.length a.ec] 26)).heap.size b := MvAt.new _
  rw [World.size_alloc] at hbb
  have HBB := Lib.hid hbb
  have e1 : a.id = b.id := congrArg Me.id he
  have e2 : a.n = b.n := congrArg Me.nodes he
  have e3 : mds a.cs = mds b.cs := congrArg Me.modes he
  have e4 : a.e = b.e := congrArg Me.slots he
  have e5 : b.cs.length = a.cs.length := by rw [← mds_len, ← mds_len, e3]
  have HC1 := Lib.hid (fun W (hW : Below w.heap.size w W) => (show Calls Try.prog 9 #[.slice a.no a.n.length a.nc, .slice b.no b.n.length b.nc] W fun e w' => e = .returned (.bool true) ∧ Below W.heap.size W w' from by
    have h1 := (ha.below hW).rn; have h2 := (hb.below hW).rn
    have l1 := ha.nle; have l2 := hb.nle; have l3 := ha.nl
    rw [← e2] at h2 l2 ⊢
    exact eqNodes_yes _ _ _ _ _ _ W h1 h2 (by omega) l1 l2))
  have HC2 := Lib.hid (fun W (hW : Below w.heap.size w W) => (show Calls Try.prog 10 #[.slice a.mo a.cs.length a.mc, .slice b.mo b.cs.length b.mc] W fun e w' => e = .returned (.bool true) ∧ Below W.heap.size W w' from by
    have h1 := (ha.below hW).rm; have h2 := (hb.below hW).rm
    have l3 := ha.ml
    rw [e5] at h2 ⊢
    exact eqModes_yes _ _ _ _ _ _ _ W h1 h2 e3 (by omega)))
  have HC3 := Lib.hid (fun W (hW : Below w.heap.size w W) => (show Calls Try.prog 11 #[.slice a.eo a.e.length a.ec, .slice b.eo b.e.length b.ec] W fun e w' => e = .returned (.bool true) ∧ Below W.heap.size W w' from by
    have h1 := (ha.below hW).re; have h2 := (hb.below hW).re
    have l1 := ha.ele; have l2 := hb.ele; have l3 := ha.el
    rw [← e4] at h2 l2 ⊢
    exact eqSlots_yes _ _ _ _ _ _ W h1 h2 (by omega) l1 l2))
  have hne : (a.id != b.id) = false := by rw [e1]; simp
  clear ha hb he e1 e2 e3 e4 e5 b1 b2 hbb
  unfold mvVal
  go_enter Try.func6, Try.ntmps6
  go_upto_region 1 with fail
  generalize (w.alloc (.cells #[.int .i64 a.id, .slice a.no a.n.length a.nc, .slice a.mo a.cs.length a.mc, .slice a.eo a.e.length a.ec] 26)).alloc (.cells #[.int .i64 b.id, .slice b.no b.n.length b.nc, .slice b.mo b.cs.length b.mc, .slice b.eo b.e.length b.ec] 26) = w1 at HA HB HBB ⊢
  obtain ⟨q0, q1, q2, q3⟩ := HA.out.all
  obtain ⟨r0, r1, r2, r3⟩ := HBB.out.all
  go_wp2_with fail
  refine (HC1.out _ HB.out).mono ?_
  rintro e w2 ⟨rfl, b2⟩
  have HB2 := Lib.hid (below_two HB.out b2)
  have HA2 := Lib.hid (HA.out.below b2 HA.out.lt)
  have HBB2 := Lib.hid (HBB.out.below b2 HBB.out.lt)
  clear q0 q1 q2 q3 r0 r1 r2 r3 b2 HA HB HBB
  obtain ⟨q0, q1, q2, q3⟩ := HA2.out.all
  obtain ⟨r0, r1, r2, r3⟩ := HBB2.out.all
  go_wp2_with fail
  refine (HC2.out _ HB2.out).mono ?_
  rintro e w3 ⟨rfl, b3⟩
  have HB3 := Lib.hid (below_two HB2.out b3)
  have HA3 := Lib.hid (HA2.out.below b3 HA2.out.lt)
  have HBB3 := Lib.hid (HBB2.out.below b3 HBB2.out.lt)
  clear q0 q1 q2 q3 r0 r1 r2 r3 b3 HA2 HB2 HBB2
  obtain ⟨q0, q1, q2, q3⟩ := HA3.out.all
  obtain ⟨r0, r1, r2, r3⟩ := HBB3.out.all
  go_wp2_with fail
  refine (HC3.out _ HB3.out).mono ?_
  rintro e w4 ⟨rfl, b4⟩
  clear q0 q1 q2 q3 r0 r1 r2 r3
  go_wp2_with fail
  go_ret
  exact ⟨rfl, below_two HB3.out b4⟩
end

section
open Go.RowKit
theorem MeRow.below {w w' : World} {v : Mv} (h : MeRow w v) (hb : Below w.heap.size w w') : MeRow w' v :=
  ⟨h.id, ⟨h.n.1, h.n.2.1, h.n.2.2.1.below hb, h.n.2.2.2⟩, ⟨h.m.1, h.m.2.1, h.m.2.2.below hb⟩, ⟨h.e.1, h.e.2.1, h.e.2.2.1.below hb, h.e.2.2.2⟩⟩
end

section
open Go.RowKit
def bxI (T K : Nat) (v : Mv) : It := ⟨.slice (some ⟨K, 0, none⟩) 1 1, T, 4, 1, [.int .i64 v.id, .slice v.no v.n.length v.nc, .slice v.mo v.cs.length v.mc, .slice v.eo v.e.length v.ec]⟩
theorem bx_of {w : World} {T K base : Nat} {v : Mv} (h : MvAt T w K v) (hb : base ≤ K) : w.ownsRow base T 4 (.slice (some ⟨K, 0, none⟩) 1 1) 1 [.int .i64 v.id, .slice v.no v.n.length v.nc, .slice v.mo v.cs.length v.mc, .slice v.eo v.e.length v.ec] :=
  ⟨rfl, .inr ⟨K, 1, #[.int .i64 v.id, .slice v.no v.n.length v.nc, .slice v.mo v.cs.length v.mc, .slice v.eo v.e.length v.ec], rfl, hb, h, Nat.le_refl _, by unfold maxLen; omega, rfl, rfl⟩⟩
theorem bx_at {w : World} {T K base : Nat} {v : Mv} (h : w.ownsRow base T 4 (.slice (some ⟨K, 0, none⟩) 1 1) 1 [.int .i64 v.id, .slice v.no v.n.length v.nc, .slice v.mo v.cs.length v.mc, .slice v.eo v.e.length v.ec]) : MvAt T w K v := by
  rcases h.2 with ⟨e, -⟩ | ⟨g, cap, cur, e, -, hg, -, -, hs, ht⟩
  · cases e
  · cases e
    have e4 : cur = #[.int .i64 v.id, .slice v.no v.n.length v.nc, .slice v.mo v.cs.length v.mc, .slice v.eo v.e.length v.ec] := by
      have : cur.toList = [.int .i64 v.id, .slice v.no v.n.length v.nc, .slice v.mo v.cs.length v.mc, .slice v.eo v.e.length v.ec] := by
        rw [← ht, List.take_of_length_le (by rw [Array.length_toList, hs]; exact Nat.le_refl _)]
      exact Array.toList_inj.1 this
    unfold MvAt
    rw [← e4]
    exact hg
theorem Hold.tail_ {w0 w : World} {p : It} {L : List It} (h : Hold w0 w ([p] ++ L)) : Hold w0 w L := ⟨h.below, fun q hq => h.own q (List.mem_cons_of_mem _ hq), (List.pairwise_cons.1 h.apart).2⟩
theorem Hold.makeB {w0 w : World} {L : List It} {T : Nat} {v : Mv} (h : Hold w0 w L) : Hold w0 (w.alloc (.cells #[.int .i64 v.id, .slice v.no v.n.length v.nc, .slice v.mo v.cs.length v.mc, .slice v.eo v.e.length v.ec] T)) ([bxI T w.heap.size v] ++ L) :=
  h.make (p := bxI T w.heap.size v) (bx_of (MvAt.new w) (Nat.le_refl _)) ((Below.refl _ _).alloc (Nat.le_refl _) _)
theorem Hold.getB {w0 w : World} {L1 L2 : List It} {T K : Nat} {v : Mv} (h : Hold w0 w (L1 ++ ([bxI T K v] ++ L2))) : MvAt T w K v := bx_at (h.own (bxI T K v) (by simp))
def mesOf (v : Mv) (n : List Nd) (cs : List Mc) (e : List Sl) : List It := [nds EN v.vn n] ++ (mis EM EI v.vm cs ++ [itsE ES v.ve e])
section
variable {w0 w : World} {L1 L2 : List It} {v : Mv} {n : List Nd} {cs : List Mc} {e : List Sl}
theorem Hold.meN (h : Hold w0 w (L1 ++ (mesOf v n cs e ++ L2))) : OwnN EN w w0.heap.size v.vn n := h.own (nds EN v.vn n) (by simp [mesOf])
theorem Hold.meM (h : Hold w0 w (L1 ++ (mesOf v n cs e ++ L2))) : OwnM EM EI w w0.heap.size v.vm cs :=
  Hold.getM (E := EM) (EI := EI) (v := v.vm) (cs := cs) (L1 := L1 ++ [nds EN v.vn n]) (L2 := [itsE ES v.ve e] ++ L2) (by simpa only [mesOf, List.append_assoc] using h)
theorem Hold.meE (h : Hold w0 w (L1 ++ (mesOf v n cs e ++ L2))) : OwnE ES w w0.heap.size v.ve e := h.own (itsE ES v.ve e) (by simp [mesOf])
theorem Hold.getMe_ (h : Hold w0 w (L1 ++ (mesOf v v.n v.cs v.e ++ L2))) : OwnMe w w0.heap.size v := ⟨h.meN, h.meM, h.meE⟩
theorem Hold.makeMe_ {w' : World} {L : List It} (h : Hold w0 w L) (o : OwnMe w' w.heap.size v) (b : Below w.heap.size w w') : Hold w0 w' (mesOf v v.n v.cs v.e ++ L) := h.makeMe o b
end
def markTot (v : Mv) : Nat := 1 + 4 * v.n.length + mTot (mds v.cs) + 8 * v.e.length
theorem mt_vs {v : Mv} (hs : Small v.me) : mTot (mds v.cs) ≤ 3145728 := hs.mt
theorem Hold.getB_ {w0 w : World} {L1 L2 : List It} {T K : Nat} {v : Mv} (h : Hold w0 w (([bxI T K v] ++ L1) ++ L2)) : MvAt T w K v := bx_at (h.own (bxI T K v) (by simp))
theorem Hold.tailB {w0 w : World} {L1 L2 : List It} {p : It} (h : Hold w0 w (([p] ++ L1) ++ L2)) : Hold w0 w (L1 ++ L2) := by rw [List.append_assoc] at h; exact h.tail_
theorem Hold.headB {w0 w : World} {L1 L2 : List It} {p : It} (h : Hold w0 w ([p] ++ (L1 ++ L2))) : Hold w0 w (([p] ++ L1) ++ L2) := by rwa [List.append_assoc]
section
variable {w0 w w' : World} {L1 L2 : List It} {v : Mv} {n n' : List Nd} {cs cs' : List Mc} {e e' : List Sl}
theorem mesN_list : L1 ++ (mesOf v n cs e ++ L2) = L1 ++ ([nds EN v.vn n] ++ (mis EM EI v.vm cs ++ [itsE ES v.ve e] ++ L2)) := by unfold mesOf; rw [List.append_assoc]
theorem mesM_list : L1 ++ (mesOf v n cs e ++ L2) = (L1 ++ [nds EN v.vn n]) ++ (mis EM EI v.vm cs ++ ([itsE ES v.ve e] ++ L2)) := by unfold mesOf; simp only [List.append_assoc]
theorem mesE_list : L1 ++ (mesOf v n cs e ++ L2) = (L1 ++ ([nds EN v.vn n] ++ mis EM EI v.vm cs)) ++ ([itsE ES v.ve e] ++ L2) := by unfold mesOf; simp only [List.append_assoc]
theorem Hold.markMeN (h : Hold w0 w (L1 ++ (mesOf v n cs e ++ L2))) (o : OwnN EN w' w0.heap.size v.vn n') (g : w.grownBy w' v.vn.ownBlock) : Hold w0 w' (L1 ++ (mesOf v n' cs e ++ L2)) := by
  rw [mesN_list] at h ⊢
  exact Hold.mark (p := nds EN v.vn n) (q := nds EN v.vn n') L1 h rfl o g
theorem Hold.markMeE (h : Hold w0 w (L1 ++ (mesOf v n cs e ++ L2))) (o : OwnE ES w' w0.heap.size v.ve e') (g : w.grownBy w' v.ve.ownBlock) : Hold w0 w' (L1 ++ (mesOf v n cs e' ++ L2)) := by
  rw [mesE_list] at h ⊢
  exact Hold.mark (p := itsE ES v.ve e) (q := itsE ES v.ve e') _ h rfl o g
theorem Hold.toM (h : Hold w0 w (L1 ++ (mesOf v n cs e ++ L2))) : Hold w0 w ((L1 ++ [nds EN v.vn n]) ++ (mis EM EI (.slice v.mo v.cs.length v.mc) cs ++ ([itsE ES v.ve e] ++ L2))) := by
  rw [mesM_list] at h
  exact h
theorem Hold.ofM (h : Hold w0 w ((L1 ++ [nds EN v.vn n]) ++ (mis EM EI (.slice v.mo v.cs.length v.mc) cs ++ ([itsE ES v.ve e] ++ L2)))) : Hold w0 w (L1 ++ (mesOf v n cs e ++ L2)) := by
  rw [mesM_list]
  exact h
end
end

section
open Go.RowKit
set_option maxRecDepth 100000 in
set_option maxHeartbeats 4000000 in
theorem markMe_any (v : Mv) (L1 L2 : List It) (w0 w : World) (hs : Small v.me) (h : Hold w0 w (L1 ++ (mesOf v v.n v.cs v.e ++ L2))) :
    Calls Try.prog 7 #[mvVal v, .int .i64 1] w fun e w' => e = .returned (.int .i64 (markTot v : Nat)) ∧ Hold w0 w' (L1 ++ (mesOf v (marksN 1 v.n.length) (markMs ((1 + 4 * v.n.length : Nat) : Int) v.cs) (marksS (((1 + 4 * v.n.length + mTot (mds v.cs) : Nat)) : Int) v.e.length) ++ L2)) := by
  have hml : v.cs.length ≤ 1048576 := by have e1 : v.me.modes.length = v.cs.length := mds_len v.cs; have := hs.ml; omega
  have hnl : v.n.length ≤ 1048576 := hs.nl
  have hel : v.e.length ≤ 1048576 := hs.el
  have hmt := mt_vs hs
  have H2 := Lib.hid (Hold.headB (h.makeB (T := 26) (v := v)))
  have e1 : (1 : Int) + 4 * (v.n.length : Int) = ((1 + 4 * v.n.length : Nat) : Int) := by omega
  have HZ : ((1 + 4 * v.n.length + mTot (mds v.cs) : Nat) : Int) + 8 * (v.e.length : Int) = ((markTot v : Nat) : Int) := by unfold markTot; omega
  obtain ⟨z1, hz1⟩ : ∃ z, z = 1 + 4 * v.n.length := ⟨_, rfl⟩
  rw [← hz1] at HZ e1 ⊢
  obtain ⟨z2, hz2⟩ : ∃ z, z = z1 + mTot (mds v.cs) := ⟨_, rfl⟩
  rw [← hz2] at HZ ⊢
  generalize markTot v = z3 at HZ ⊢
  have hz1' : z1 ≤ 16777216 := by omega
  have hz2' : (1 : Int) ≤ (z2 : Int) ∧ (z2 : Int) ≤ 16777216 := by omega
  have g1 : ¬ (z1 : Int) < 0 := by omega
  have g2 : ¬ (z2 : Int) < 0 := by omega
  have g3 : ¬ (z3 : Int) < 0 := by omega
  have HCN := Lib.hid (fun (W : World) (L : List It) (hW : Hold w0 W (([bxI 26 w.heap.size v] ++ L1) ++ (mesOf v v.n v.cs v.e ++ L2))) => (show Calls Try.prog 12 #[.slice v.no v.n.length v.nc, .int .i64 1] W fun e w' => e = .returned (.int .i64 (z1 : Int)) ∧ Hold w0 w' (([bxI 26 w.heap.size v] ++ L1) ++ (mesOf v (marksN 1 v.n.length) v.cs v.e ++ L2)) from by
    rw [← e1]
    refine (markNodes_any _ _ _ _ _ _ _ rfl hW.meN (by omega) (by omega) (by omega)).mono ?_
    rintro q w2 ⟨rfl, o2, g2⟩
    exact ⟨rfl, hW.markMeN o2 g2⟩))
  have HCM := Lib.hid (fun (W : World) (hW : Hold w0 W (([bxI 26 w.heap.size v] ++ L1) ++ (mesOf v (marksN 1 v.n.length) v.cs v.e ++ L2))) => (show Calls Try.prog 13 #[.slice v.mo v.cs.length v.mc, .int .i64 (z1 : Int)] W fun e w' => e = .returned (.int .i64 (z2 : Int)) ∧ Hold w0 w' (([bxI 26 w.heap.size v] ++ L1) ++ (mesOf v (marksN 1 v.n.length) (markMs z1 v.cs) v.e ++ L2)) from by
    refine (markModes_any _ _ _ v.cs _ _ z1 w0 _ rfl hW.toM (by omega) hml hz1').mono ?_
    rintro q w3 ⟨rfl, h4⟩
    rw [hz2]
    exact ⟨rfl, h4.ofM⟩))
  have HCE := Lib.hid (fun (W : World) (hW : Hold w0 W (([bxI 26 w.heap.size v] ++ L1) ++ (mesOf v (marksN 1 v.n.length) (markMs z1 v.cs) v.e ++ L2))) => (show Calls Try.prog 14 #[.slice v.eo v.e.length v.ec, .int .i64 (z2 : Int)] W fun e w' => e = .returned (.int .i64 (z3 : Int)) ∧ Hold w0 w' (([bxI 26 w.heap.size v] ++ L1) ++ (mesOf v (marksN 1 v.n.length) (markMs z1 v.cs) (marksS (z2 : Int) v.e.length) ++ L2)) from by
    rw [← HZ]
    refine (markSlots_any _ _ _ _ _ _ _ rfl hW.meE (by omega) hz2'.1 hz2'.2).mono ?_
    rintro q w4 ⟨rfl, o5, g5⟩
    exact ⟨rfl, hW.markMeE o5 g5⟩))
  clear h hs e1 HZ hz1 hz2 hmt hml hnl hel hz1' hz2'
  unfold mvVal
  go_enter Try.func7, Try.ntmps7
  go_upto_region 1 with fail
  generalize w.alloc (.cells #[.int .i64 v.id, .slice v.no v.n.length v.nc, .slice v.mo v.cs.length v.mc, .slice v.eo v.e.length v.ec] 26) = w1 at H2 ⊢
  generalize w.heap.size = K at *
  have HB := (Hold.getB_ H2.out)
  obtain ⟨q0, q1, q2, q3⟩ := HB.all
  go_wp2_with fail
  refine (HCN.out _ [] H2.out).mono ?_
  rintro q w2 ⟨rfl, h3⟩
  have H3 := Lib.hid h3
  clear q0 q1 q2 q3 HB H2 h3
  have HB := (Hold.getB_ H3.out)
  obtain ⟨q0, q1, q2, q3⟩ := HB.all
  go_wp2_with fail
  refine (HCM.out _ H3.out).mono ?_
  rintro q w3 ⟨rfl, h4⟩
  have H4 := Lib.hid h4
  clear q0 q1 q2 q3 HB H3 h4
  have HB := (Hold.getB_ H4.out)
  obtain ⟨q0, q1, q2, q3⟩ := HB.all
  go_wp2_with fail
  refine (HCE.out _ H4.out).mono ?_
  rintro q w4 ⟨rfl, h5⟩
  have H5 := Lib.hid (Hold.tailB h5)
  clear q0 q1 q2 q3 HB H4 h5
  go_wp2_with fail
  go_ret
  exact ⟨rfl, H5.out⟩
end

section
open Go.RowKit
set_option maxRecDepth 100000 in
set_option maxHeartbeats 4000000 in
theorem heldMe_yes (v : Mv) (w : World) (hs : Small v.me) (hn : RdN w v.no v.n.length (marksN 1 v.n.length)) (hm : RdM w v.mo v.cs.length (markMs ((1 + 4 * v.n.length : Nat) : Int) v.cs)) (he : RdE w v.eo v.e.length (marksS (((1 + 4 * v.n.length + mTot (mds v.cs) : Nat)) : Int) v.e.length)) :
    Calls Try.prog 8 #[mvVal v, .int .i64 1] w fun e w' => e = .returned (.int .i64 (markTot v : Nat)) ∧ Below w.heap.size w w' := by
  have hml : v.cs.length ≤ 1048576 := by have e1 : v.me.modes.length = v.cs.length := mds_len v.cs; have := hs.ml; omega
  have hnl : v.n.length ≤ 1048576 := hs.nl
  have hel : v.e.length ≤ 1048576 := hs.el
  have hmt := mt_vs hs
  have HB := Lib.hid ((Below.refl w.heap.size w).alloc (Nat.le_refl _) (.cells #[.int .i64 v.id, .slice v.no v.n.length v.nc, .slice v.mo v.cs.length v.mc, .slice v.eo v.e.length v.ec] 26))
  have HV := Lib.hid (MvAt.new (T := 26) (v := v) w)
  have e1 : (1 : Int) + 4 * (v.n.length : Int) = ((1 + 4 * v.n.length : Nat) : Int) := by omega
  have HCN := Lib.hid (fun W (hW : Below w.heap.size w W) => (show Calls Try.prog 15 #[.slice v.no v.n.length v.nc, .int .i64 1] W fun e w' => e = .returned (.int .i64 ((1 + 4 * v.n.length : Nat) : Int)) ∧ Below W.heap.size W w' from by
    rw [← e1]; exact heldNodes_yes _ _ _ _ _ (hn.below hW) (by omega) (by omega) (by omega)))
  have HCM := Lib.hid (fun W (hW : Below w.heap.size w W) => heldModes_yes v.mo v.cs.length v.mc v.cs (1 + 4 * v.n.length) W rfl (hm.below hW) (by omega) (by omega) (by omega))
  have HCE := Lib.hid (fun W (hW : Below w.heap.size w W) => (show Calls Try.prog 17 #[.slice v.eo v.e.length v.ec, .int .i64 ((1 + 4 * v.n.length + mTot (mds v.cs) : Nat) : Int)] W fun e w' => e = .returned (.int .i64 ((markTot v : Nat) : Int)) ∧ Below W.heap.size W w' from by
    have h := heldSlots_yes _ _ v.ec _ _ (he.below hW) (by omega) (by omega) (by omega)
    rw [show (((1 + 4 * v.n.length + mTot (mds v.cs) : Nat) : Int) + 8 * (v.e.length : Int)) = ((markTot v : Nat) : Int) from by unfold markTot; omega] at h
    exact h))
  generalize markTot v = z3 at HCE ⊢
  obtain ⟨z1, hz1⟩ : ∃ z, z = 1 + 4 * v.n.length := ⟨_, rfl⟩
  rw [← hz1] at HCN HCM HCE
  obtain ⟨z2, hz2⟩ : ∃ z, z = z1 + mTot (mds v.cs) := ⟨_, rfl⟩
  rw [← hz2] at HCM HCE
  have g1 : ¬ (z1 : Int) < 0 := by omega
  have g2 : ¬ (z2 : Int) < 0 := by omega
  have g3 : ¬ (z3 : Int) < 0 := by omega
  clear hn hm he hs e1 hz1 hz2 hmt
  unfold mvVal
  go_enter Try.func8, Try.ntmps8
  go_upto_region 1 with fail
  generalize w.alloc (.cells #[.int .i64 v.id, .slice v.no v.n.length v.nc, .slice v.mo v.cs.length v.mc, .slice v.eo v.e.length v.ec] 26) = w1 at HB HV ⊢
  obtain ⟨q0, q1, q2, q3⟩ := HV.out.all
  go_wp2_with fail
  refine (HCN.out _ HB.out).mono ?_
  rintro q w2 ⟨rfl, b2⟩
  have HB2 := Lib.hid (below_two HB.out b2)
  have HV2 := Lib.hid (HV.out.below b2 HV.out.lt)
  clear q0 q1 q2 q3 b2 HB HV
  obtain ⟨q0, q1, q2, q3⟩ := HV2.out.all
  go_wp2_with fail
  refine (HCM.out _ HB2.out).mono ?_
  rintro q w3 ⟨rfl, rfl⟩
  go_wp2_with fail
  refine (HCE.out _ HB2.out).mono ?_
  rintro q w4 ⟨rfl, b4⟩
  clear q0 q1 q2 q3
  go_wp2_with fail
  go_ret
  exact ⟨rfl, below_two HB2.out b4⟩
end

section
open Go.RowKit
section
variable {w0 w w' : World} {L L1 L2 : List It} {v : Mv} {n : List Nd} {cs : List Mc} {e : List Sl}
theorem Hold.tailMe (h : Hold w0 w (mesOf v n cs e ++ L)) : Hold w0 w L := ⟨h.below, fun q hq => h.own q (List.mem_append_right _ hq), (List.pairwise_append.1 h.apart).2.1⟩
theorem Hold.drop {X : List It} (h : Hold w0 w (L1 ++ (X ++ L2))) : Hold w0 w (L1 ++ L2) := by
  refine ⟨h.below, fun q hq => h.own q ?_, ?_⟩
  · rcases List.mem_append.1 hq with h | h
    · exact List.mem_append_left _ h
    · exact List.mem_append_right _ (List.mem_append_right _ h)
  · have ha := List.pairwise_append.1 h.apart
    have hb := List.pairwise_append.1 ha.2.1
    exact List.pairwise_append.2 ⟨ha.1, hb.2.1, fun a h1 b h2 => ha.2.2 a h1 b (List.mem_append_right _ h2)⟩
theorem Hold.heldMe (h : Hold w0 w (L1 ++ (mesOf v (marksN 1 v.n.length) (markMs ((1 + 4 * v.n.length : Nat) : Int) v.cs) (marksS (((1 + 4 * v.n.length + mTot (mds v.cs) : Nat)) : Int) v.e.length) ++ L2))) :
    RdN w v.no v.n.length (marksN 1 v.n.length) ∧ RdM w v.mo v.cs.length (markMs ((1 + 4 * v.n.length : Nat) : Int) v.cs) ∧ RdE w v.eo v.e.length (marksS (((1 + 4 * v.n.length + mTot (mds v.cs) : Nat)) : Int) v.e.length) := by
  refine ⟨?_, ?_, ?_⟩
  · obtain ⟨ao, cap, e, -, r⟩ := h.meN.get
    rw [marksN_len] at e r
    cases e; exact r
  · obtain ⟨ao, cap, e, -, r⟩ := h.meM.get
    rw [markMs_len] at e r
    cases e; exact r
  · obtain ⟨ao, cap, e, -, r⟩ := h.meE.get
    rw [marksS_len] at e r
    cases e; exact r
end
abbrev TM : Nat := 26
structure WiB (w0 W : World) (K4 K7 : Nat) (v4 v7 : Mv) : Prop where
  h : Hold w0 W ([bxI TM K7 v7] ++ (mesOf v7 v7.n v7.cs v7.e ++ ([bxI TM K4 v4] ++ (mesOf v4 v4.n v4.cs v4.e ++ []))))
structure WiC (w0 W : World) (K4 K7 : Nat) (v4 v7 : Mv) : Prop where
  h : Hold w0 W ([bxI TM K7 v7] ++ (mesOf v7 (marksN 1 v7.n.length) (markMs ((1 + 4 * v7.n.length : Nat) : Int) v7.cs) (marksS (((1 + 4 * v7.n.length + mTot (mds v7.cs) : Nat)) : Int) v7.e.length) ++ ([bxI TM K4 v4] ++ (mesOf v4 v4.n v4.cs v4.e ++ []))))
section
variable {w0 W W' : World} {K4 K5 K7 : Nat} {v4 v5 v7 : Mv}
theorem WiB.call (h : WiB w0 W K4 K7 v4 v7) (b : Below W.heap.size W W') : WiB w0 W' K4 K7 v4 v7 := ⟨h.h.still b⟩
theorem WiC.call (h : WiC w0 W K4 K7 v4 v7) (b : Below W.heap.size W W') : WiC w0 W' K4 K7 v4 v7 := ⟨h.h.still b⟩
theorem WiB.b7 (h : WiB w0 W K4 K7 v4 v7) : MvAt TM W K7 v7 := Hold.getB (L1 := []) h.h
theorem WiB.b4 (h : WiB w0 W K4 K7 v4 v7) : MvAt TM W K4 v4 := Hold.getB (L1 := []) h.h.tail_.tailMe
theorem WiB.r7 (h : WiB w0 W K4 K7 v4 v7) (hs : Small v7.me) : RdMe W v7 := (Hold.getMe_ (L1 := []) h.h.tail_).rd hs
theorem WiB.r4 (h : WiB w0 W K4 K7 v4 v7) (hs : Small v4.me) : RdMe W v4 := (Hold.getMe_ (L1 := []) h.h.tail_.tailMe.tail_).rd hs
theorem WiC.b7 (h : WiC w0 W K4 K7 v4 v7) : MvAt TM W K7 v7 := Hold.getB (L1 := []) h.h
theorem WiC.b4 (h : WiC w0 W K4 K7 v4 v7) : MvAt TM W K4 v4 := Hold.getB (L1 := []) h.h.tail_.tailMe
theorem WiC.r4 (h : WiC w0 W K4 K7 v4 v7) (hs : Small v4.me) : RdMe W v4 := (Hold.getMe_ (L1 := []) h.h.tail_.tailMe.tail_).rd hs
theorem WiB.mark (h : WiB w0 W K4 K7 v4 v7) (hs : Small v7.me) : Calls Try.prog 7 #[mvVal v7, .int .i64 1] W fun e w' => e = .returned (.int .i64 (markTot v7 : Nat)) ∧ WiC w0 w' K4 K7 v4 v7 := by
  refine (markMe_any v7 _ _ w0 W hs h.h).mono ?_
  rintro q w2 ⟨rfl, h2⟩
  exact ⟨rfl, ⟨h2⟩⟩
theorem WiC.held (h : WiC w0 W K4 K7 v4 v7) (hs : Small v7.me) : Calls Try.prog 8 #[mvVal v7, .int .i64 1] W fun e w' => e = .returned (.int .i64 (markTot v7 : Nat)) ∧ Below W.heap.size W w' := by
  obtain ⟨a, b, c⟩ := (Hold.heldMe (L1 := []) h.h.tail_)
  exact heldMe_yes v7 W hs a b c
end
end

section
open Go.RowKit
def smallMe : Me := ⟨77, [⟨0, ⟨#[97]⟩, 100, false⟩, ⟨1, ⟨#[98]⟩, 50, false⟩], [⟨2, 2, [1]⟩, ⟨1, 2, [0]⟩],
  [⟨0, 0, 0, ⟨0, 3, 0, 200, false⟩⟩, ⟨0, 0, 1, ⟨1, 1, 0, 200, false⟩⟩, ⟨0, 1, 0, ⟨0, 0, 4, 200, true⟩⟩, ⟨0, 1, 1, ⟨1, 0, 2, 200, false⟩⟩, ⟨1, 0, 0, ⟨1, 2, 3, 300, true⟩⟩, ⟨1, 0, 1, ⟨0, 0, 0, 150, false⟩⟩]⟩
def smallMv (B : Nat) : Mv := ⟨77, smallMe.nodes, some ⟨B + 1, 0, none⟩, 2, [⟨⟨2, 2, [1]⟩, some ⟨B + 1 + 1, 0, none⟩, 1⟩, ⟨⟨1, 2, [0]⟩, some ⟨B + 1 + 1 + 1, 0, none⟩, 1⟩], some ⟨B + 1 + 1 + 1 + 1, 0, none⟩, 2, smallMe.slots, some ⟨B + 1 + 1 + 1 + 1 + 1, 0, none⟩, 6⟩
theorem own_new {E base s n g : Nat} {w : World} (cs : Array Value) (hg : w.heap.size = g) (hb : base ≤ g) (h1 : cs.size = n * s) (h2 : n ≤ 1000) : (w.alloc (.cells cs E)).ownsRow base E s (.slice (some ⟨g, 0, none⟩) n n) n cs.toList := by
  subst hg
  exact ⟨by rw [Array.length_toList]; exact h1, .inr ⟨w.heap.size, n, cs, rfl, hb, heap_alloc_new w _, Nat.le_refl _, by unfold maxLen; omega, h1, by rw [List.take_of_length_le (by rw [Array.length_toList]; omega)]⟩⟩
def slArr : Array Value := #[.int .i64 0, .int .i64 0, .int .i64 0, .int .i64 0, .int .i64 3, .int .i64 0, .int .i64 200, .bool false, .int .i64 0, .int .i64 0, .int .i64 1, .int .i64 1, .int .i64 1, .int .i64 0, .int .i64 200, .bool false, .int .i64 0, .int .i64 1, .int .i64 0, .int .i64 0, .int .i64 0, .int .i64 4, .int .i64 200, .bool true, .int .i64 0, .int .i64 1, .int .i64 1, .int .i64 1, .int .i64 0, .int .i64 2, .int .i64 200, .bool false, .int .i64 1, .int .i64 0, .int .i64 0, .int .i64 1, .int .i64 2, .int .i64 3, .int .i64 300, .bool true, .int .i64 1, .int .i64 0, .int .i64 1, .int .i64 0, .int .i64 0, .int .i64 0, .int .i64 150, .bool false]
theorem below_new {w : World} {o : Obj} : Below w.heap.size w (w.alloc o) := (Below.refl _ _).alloc (Nat.le_refl _) _
theorem size_new {w : World} {o : Obj} {n : Nat} (h : w.heap.size = n) : (w.alloc o).heap.size = n + 1 := by rw [← h, World.size_alloc]
set_option maxRecDepth 100000 in
theorem small_world (w : World) : MvAt 26 ((((((w.alloc (.cells #[.int .i64 77, .slice (some ⟨w.heap.size + 1, 0, none⟩) 2 2, .slice (some ⟨w.heap.size + 1 + 1 + 1 + 1, 0, none⟩) 2 2, .slice (some ⟨w.heap.size + 1 + 1 + 1 + 1 + 1, 0, none⟩) 6 6] 26)).alloc (.cells #[.int .i64 0, .string ⟨#[97]⟩, .int .i64 100, .bool false, .int .i64 1, .string ⟨#[98]⟩, .int .i64 50, .bool false] EN)).alloc (.cells #[.int .i64 1] EI)).alloc (.cells #[.int .i64 0] EI)).alloc (.cells #[.int .i64 2, .int .i64 2, .slice (some ⟨w.heap.size + 1 + 1, 0, none⟩) 1 1, .int .i64 1, .int .i64 2, .slice (some ⟨w.heap.size + 1 + 1 + 1, 0, none⟩) 1 1] EM)).alloc (.cells #[.int .i64 0, .int .i64 0, .int .i64 0, .int .i64 0, .int .i64 3, .int .i64 0, .int .i64 200, .bool false, .int .i64 0, .int .i64 0, .int .i64 1, .int .i64 1, .int .i64 1, .int .i64 0, .int .i64 200, .bool false, .int .i64 0, .int .i64 1, .int .i64 0, .int .i64 0, .int .i64 0, .int .i64 4, .int .i64 200, .bool true, .int .i64 0, .int .i64 1, .int .i64 1, .int .i64 1, .int .i64 0, .int .i64 2, .int .i64 200, .bool false, .int .i64 1, .int .i64 0, .int .i64 0, .int .i64 1, .int .i64 2, .int .i64 3, .int .i64 300, .bool true, .int .i64 1, .int .i64 0, .int .i64 1, .int .i64 0, .int .i64 0, .int .i64 0, .int .i64 150, .bool false] ES)) w.heap.size (smallMv w.heap.size) ∧ OwnMe ((((((w.alloc (.cells #[.int .i64 77, .slice (some ⟨w.heap.size + 1, 0, none⟩) 2 2, .slice (some ⟨w.heap.size + 1 + 1 + 1 + 1, 0, none⟩) 2 2, .slice (some ⟨w.heap.size + 1 + 1 + 1 + 1 + 1, 0, none⟩) 6 6] 26)).alloc (.cells #[.int .i64 0, .string ⟨#[97]⟩, .int .i64 100, .bool false, .int .i64 1, .string ⟨#[98]⟩, .int .i64 50, .bool false] EN)).alloc (.cells #[.int .i64 1] EI)).alloc (.cells #[.int .i64 0] EI)).alloc (.cells #[.int .i64 2, .int .i64 2, .slice (some ⟨w.heap.size + 1 + 1, 0, none⟩) 1 1, .int .i64 1, .int .i64 2, .slice (some ⟨w.heap.size + 1 + 1 + 1, 0, none⟩) 1 1] EM)).alloc (.cells #[.int .i64 0, .int .i64 0, .int .i64 0, .int .i64 0, .int .i64 3, .int .i64 0, .int .i64 200, .bool false, .int .i64 0, .int .i64 0, .int .i64 1, .int .i64 1, .int .i64 1, .int .i64 0, .int .i64 200, .bool false, .int .i64 0, .int .i64 1, .int .i64 0, .int .i64 0, .int .i64 0, .int .i64 4, .int .i64 200, .bool true, .int .i64 0, .int .i64 1, .int .i64 1, .int .i64 1, .int .i64 0, .int .i64 2, .int .i64 200, .bool false, .int .i64 1, .int .i64 0, .int .i64 0, .int .i64 1, .int .i64 2, .int .i64 3, .int .i64 300, .bool true, .int .i64 1, .int .i64 0, .int .i64 1, .int .i64 0, .int .i64 0, .int .i64 0, .int .i64 150, .bool false] ES)) w.heap.size (smallMv w.heap.size) ∧ Below w.heap.size w ((((((w.alloc (.cells #[.int .i64 77, .slice (some ⟨w.heap.size + 1, 0, none⟩) 2 2, .slice (some ⟨w.heap.size + 1 + 1 + 1 + 1, 0, none⟩) 2 2, .slice (some ⟨w.heap.size + 1 + 1 + 1 + 1 + 1, 0, none⟩) 6 6] 26)).alloc (.cells #[.int .i64 0, .string ⟨#[97]⟩, .int .i64 100, .bool false, .int .i64 1, .string ⟨#[98]⟩, .int .i64 50, .bool false] EN)).alloc (.cells #[.int .i64 1] EI)).alloc (.cells #[.int .i64 0] EI)).alloc (.cells #[.int .i64 2, .int .i64 2, .slice (some ⟨w.heap.size + 1 + 1, 0, none⟩) 1 1, .int .i64 1, .int .i64 2, .slice (some ⟨w.heap.size + 1 + 1 + 1, 0, none⟩) 1 1] EM)).alloc (.cells #[.int .i64 0, .int .i64 0, .int .i64 0, .int .i64 0, .int .i64 3, .int .i64 0, .int .i64 200, .bool false, .int .i64 0, .int .i64 0, .int .i64 1, .int .i64 1, .int .i64 1, .int .i64 0, .int .i64 200, .bool false, .int .i64 0, .int .i64 1, .int .i64 0, .int .i64 0, .int .i64 0, .int .i64 4, .int .i64 200, .bool true, .int .i64 0, .int .i64 1, .int .i64 1, .int .i64 1, .int .i64 0, .int .i64 2, .int .i64 200, .bool false, .int .i64 1, .int .i64 0, .int .i64 0, .int .i64 1, .int .i64 2, .int .i64 3, .int .i64 300, .bool true, .int .i64 1, .int .i64 0, .int .i64 1, .int .i64 0, .int .i64 0, .int .i64 0, .int .i64 150, .bool false] ES)) := by
  have m1 : MvAt 26 (w.alloc (.cells #[.int .i64 77, .slice (some ⟨w.heap.size + 1, 0, none⟩) 2 2, .slice (some ⟨w.heap.size + 1 + 1 + 1 + 1, 0, none⟩) 2 2, .slice (some ⟨w.heap.size + 1 + 1 + 1 + 1 + 1, 0, none⟩) 6 6] 26)) w.heap.size (smallMv w.heap.size) := MvAt.new (v := smallMv w.heap.size) w
  have b1 : Below w.heap.size w (w.alloc (.cells #[.int .i64 77, .slice (some ⟨w.heap.size + 1, 0, none⟩) 2 2, .slice (some ⟨w.heap.size + 1 + 1 + 1 + 1, 0, none⟩) 2 2, .slice (some ⟨w.heap.size + 1 + 1 + 1 + 1 + 1, 0, none⟩) 6 6] 26)) := below_new
  have s1 : (w.alloc (.cells #[.int .i64 77, .slice (some ⟨w.heap.size + 1, 0, none⟩) 2 2, .slice (some ⟨w.heap.size + 1 + 1 + 1 + 1, 0, none⟩) 2 2, .slice (some ⟨w.heap.size + 1 + 1 + 1 + 1 + 1, 0, none⟩) 6 6] 26)).heap.size = w.heap.size + 1 := size_new rfl
  generalize w.alloc (.cells #[.int .i64 77, .slice (some ⟨w.heap.size + 1, 0, none⟩) 2 2, .slice (some ⟨w.heap.size + 1 + 1 + 1 + 1, 0, none⟩) 2 2, .slice (some ⟨w.heap.size + 1 + 1 + 1 + 1 + 1, 0, none⟩) 6 6] 26) = w1 at m1 b1 s1 ⊢
  have o2 : OwnN EN (w1.alloc (.cells #[.int .i64 0, .string ⟨#[97]⟩, .int .i64 100, .bool false, .int .i64 1, .string ⟨#[98]⟩, .int .i64 50, .bool false] EN)) w.heap.size (.slice (some ⟨w.heap.size + 1, 0, none⟩) 2 2) smallMe.nodes := own_new #[.int .i64 0, .string ⟨#[97]⟩, .int .i64 100, .bool false, .int .i64 1, .string ⟨#[98]⟩, .int .i64 50, .bool false] s1 (by omega) rfl (by omega)
  have s2 := size_new (o := (.cells #[.int .i64 0, .string ⟨#[97]⟩, .int .i64 100, .bool false, .int .i64 1, .string ⟨#[98]⟩, .int .i64 50, .bool false] EN)) s1
  have m2 := m1.below (below_new (o := (.cells #[.int .i64 0, .string ⟨#[97]⟩, .int .i64 100, .bool false, .int .i64 1, .string ⟨#[98]⟩, .int .i64 50, .bool false] EN))) m1.lt
  have b2 := below_two b1 (below_new (o := (.cells #[.int .i64 0, .string ⟨#[97]⟩, .int .i64 100, .bool false, .int .i64 1, .string ⟨#[98]⟩, .int .i64 50, .bool false] EN)))
  generalize w1.alloc (.cells #[.int .i64 0, .string ⟨#[97]⟩, .int .i64 100, .bool false, .int .i64 1, .string ⟨#[98]⟩, .int .i64 50, .bool false] EN) = w2 at o2 s2 m2 b2 ⊢
  have o3 : Own EI (w2.alloc (.cells #[.int .i64 1] EI)) w.heap.size (.slice (some ⟨w.heap.size + 1 + 1, 0, none⟩) 1 1) [1] := own_new #[.int .i64 1] s2 (by omega) rfl (by omega)
  have s3 := size_new (o := (.cells #[.int .i64 1] EI)) s2
  have m3 := m2.below (below_new (o := (.cells #[.int .i64 1] EI))) m2.lt
  have b3 := below_two b2 (below_new (o := (.cells #[.int .i64 1] EI)))
  replace o2 := o2.below (below_new (o := (.cells #[.int .i64 1] EI)))
  generalize w2.alloc (.cells #[.int .i64 1] EI) = w3 at o2 o3 s3 m3 b3 ⊢
  have o4 : Own EI (w3.alloc (.cells #[.int .i64 0] EI)) w.heap.size (.slice (some ⟨w.heap.size + 1 + 1 + 1, 0, none⟩) 1 1) [0] := own_new #[.int .i64 0] s3 (by omega) rfl (by omega)
  have s4 := size_new (o := (.cells #[.int .i64 0] EI)) s3
  have m4 := m3.below (below_new (o := (.cells #[.int .i64 0] EI))) m3.lt
  have b4 := below_two b3 (below_new (o := (.cells #[.int .i64 0] EI)))
  replace o2 := o2.below (below_new (o := (.cells #[.int .i64 0] EI)))
  replace o3 := o3.below (below_new (o := (.cells #[.int .i64 0] EI)))
  generalize w3.alloc (.cells #[.int .i64 0] EI) = w4 at o2 o3 o4 s4 m4 b4 ⊢
  have o5 : w4.alloc (.cells #[.int .i64 2, .int .i64 2, .slice (some ⟨w.heap.size + 1 + 1, 0, none⟩) 1 1, .int .i64 1, .int .i64 2, .slice (some ⟨w.heap.size + 1 + 1 + 1, 0, none⟩) 1 1] EM) |>.ownsRow w.heap.size EM 3 (.slice (some ⟨w.heap.size + 1 + 1 + 1 + 1, 0, none⟩) 2 2) 2 ((smallMv w.heap.size).cs.flatMap mcCells) := own_new #[.int .i64 2, .int .i64 2, .slice (some ⟨w.heap.size + 1 + 1, 0, none⟩) 1 1, .int .i64 1, .int .i64 2, .slice (some ⟨w.heap.size + 1 + 1 + 1, 0, none⟩) 1 1] s4 (by omega) rfl (by omega)
  have s5 := size_new (o := (.cells #[.int .i64 2, .int .i64 2, .slice (some ⟨w.heap.size + 1 + 1, 0, none⟩) 1 1, .int .i64 1, .int .i64 2, .slice (some ⟨w.heap.size + 1 + 1 + 1, 0, none⟩) 1 1] EM)) s4
  have m5 := m4.below (below_new (o := (.cells #[.int .i64 2, .int .i64 2, .slice (some ⟨w.heap.size + 1 + 1, 0, none⟩) 1 1, .int .i64 1, .int .i64 2, .slice (some ⟨w.heap.size + 1 + 1 + 1, 0, none⟩) 1 1] EM))) m4.lt
  have b5 := below_two b4 (below_new (o := (.cells #[.int .i64 2, .int .i64 2, .slice (some ⟨w.heap.size + 1 + 1, 0, none⟩) 1 1, .int .i64 1, .int .i64 2, .slice (some ⟨w.heap.size + 1 + 1 + 1, 0, none⟩) 1 1] EM)))
  replace o2 := o2.below (below_new (o := (.cells #[.int .i64 2, .int .i64 2, .slice (some ⟨w.heap.size + 1 + 1, 0, none⟩) 1 1, .int .i64 1, .int .i64 2, .slice (some ⟨w.heap.size + 1 + 1 + 1, 0, none⟩) 1 1] EM)))
  replace o3 := o3.below (below_new (o := (.cells #[.int .i64 2, .int .i64 2, .slice (some ⟨w.heap.size + 1 + 1, 0, none⟩) 1 1, .int .i64 1, .int .i64 2, .slice (some ⟨w.heap.size + 1 + 1 + 1, 0, none⟩) 1 1] EM)))
  replace o4 := o4.below (below_new (o := (.cells #[.int .i64 2, .int .i64 2, .slice (some ⟨w.heap.size + 1 + 1, 0, none⟩) 1 1, .int .i64 1, .int .i64 2, .slice (some ⟨w.heap.size + 1 + 1 + 1, 0, none⟩) 1 1] EM)))
  have nx : ∀ c ∈ (smallMv w.heap.size).cs, Own EI (w4.alloc (.cells #[.int .i64 2, .int .i64 2, .slice (some ⟨w.heap.size + 1 + 1, 0, none⟩) 1 1, .int .i64 1, .int .i64 2, .slice (some ⟨w.heap.size + 1 + 1 + 1, 0, none⟩) 1 1] EM)) w.heap.size c.v c.md.next := by
    intro c hc
    rcases List.mem_cons.1 hc with rfl | hc
    · exact o3
    · rcases List.mem_cons.1 hc with rfl | hc
      · exact o4
      · cases hc
  have ap : (smallMv w.heap.size).cs.Pairwise fun p q => ∀ k, p.v.ownBlock = some k → q.v.ownBlock ≠ some k := by
    refine List.pairwise_cons.2 ⟨?_, List.pairwise_cons.2 ⟨fun _ h => (by cases h), List.Pairwise.nil⟩⟩
    intro q hq k h1 h2
    rcases List.mem_cons.1 hq with rfl | hq
    · have e1 : some (w.heap.size + 1 + 1) = some k := h1
      have e2 : some (w.heap.size + 1 + 1 + 1) = some k := h2
      rw [← e1] at e2
      injection e2 with e2
      omega
    · cases hq
  have om : OwnM EM EI (w4.alloc (.cells #[.int .i64 2, .int .i64 2, .slice (some ⟨w.heap.size + 1 + 1, 0, none⟩) 1 1, .int .i64 1, .int .i64 2, .slice (some ⟨w.heap.size + 1 + 1 + 1, 0, none⟩) 1 1] EM)) w.heap.size (.slice (some ⟨w.heap.size + 1 + 1 + 1 + 1, 0, none⟩) 2 2) (smallMv w.heap.size).cs := ⟨o5, nx, ap⟩
  generalize w4.alloc (.cells #[.int .i64 2, .int .i64 2, .slice (some ⟨w.heap.size + 1 + 1, 0, none⟩) 1 1, .int .i64 1, .int .i64 2, .slice (some ⟨w.heap.size + 1 + 1 + 1, 0, none⟩) 1 1] EM) = w5 at o2 om s5 m5 b5 ⊢
  have o6 : OwnE ES (w5.alloc (.cells #[.int .i64 0, .int .i64 0, .int .i64 0, .int .i64 0, .int .i64 3, .int .i64 0, .int .i64 200, .bool false, .int .i64 0, .int .i64 0, .int .i64 1, .int .i64 1, .int .i64 1, .int .i64 0, .int .i64 200, .bool false, .int .i64 0, .int .i64 1, .int .i64 0, .int .i64 0, .int .i64 0, .int .i64 4, .int .i64 200, .bool true, .int .i64 0, .int .i64 1, .int .i64 1, .int .i64 1, .int .i64 0, .int .i64 2, .int .i64 200, .bool false, .int .i64 1, .int .i64 0, .int .i64 0, .int .i64 1, .int .i64 2, .int .i64 3, .int .i64 300, .bool true, .int .i64 1, .int .i64 0, .int .i64 1, .int .i64 0, .int .i64 0, .int .i64 0, .int .i64 150, .bool false] ES)) w.heap.size (.slice (some ⟨w.heap.size + 1 + 1 + 1 + 1 + 1, 0, none⟩) 6 6) smallMe.slots := own_new slArr s5 (by omega) rfl (by omega)
  exact ⟨m5.below (below_new (o := (.cells #[.int .i64 0, .int .i64 0, .int .i64 0, .int .i64 0, .int .i64 3, .int .i64 0, .int .i64 200, .bool false, .int .i64 0, .int .i64 0, .int .i64 1, .int .i64 1, .int .i64 1, .int .i64 0, .int .i64 200, .bool false, .int .i64 0, .int .i64 1, .int .i64 0, .int .i64 0, .int .i64 0, .int .i64 4, .int .i64 200, .bool true, .int .i64 0, .int .i64 1, .int .i64 1, .int .i64 1, .int .i64 0, .int .i64 2, .int .i64 200, .bool false, .int .i64 1, .int .i64 0, .int .i64 0, .int .i64 1, .int .i64 2, .int .i64 3, .int .i64 300, .bool true, .int .i64 1, .int .i64 0, .int .i64 1, .int .i64 0, .int .i64 0, .int .i64 0, .int .i64 150, .bool false] ES))) m5.lt, ⟨o2.below (below_new (o := (.cells #[.int .i64 0, .int .i64 0, .int .i64 0, .int .i64 0, .int .i64 3, .int .i64 0, .int .i64 200, .bool false, .int .i64 0, .int .i64 0, .int .i64 1, .int .i64 1, .int .i64 1, .int .i64 0, .int .i64 200, .bool false, .int .i64 0, .int .i64 1, .int .i64 0, .int .i64 0, .int .i64 0, .int .i64 4, .int .i64 200, .bool true, .int .i64 0, .int .i64 1, .int .i64 1, .int .i64 1, .int .i64 0, .int .i64 2, .int .i64 200, .bool false, .int .i64 1, .int .i64 0, .int .i64 0, .int .i64 1, .int .i64 2, .int .i64 3, .int .i64 300, .bool true, .int .i64 1, .int .i64 0, .int .i64 1, .int .i64 0, .int .i64 0, .int .i64 0, .int .i64 150, .bool false] ES))), om.below (below_new (o := (.cells #[.int .i64 0, .int .i64 0, .int .i64 0, .int .i64 0, .int .i64 3, .int .i64 0, .int .i64 200, .bool false, .int .i64 0, .int .i64 0, .int .i64 1, .int .i64 1, .int .i64 1, .int .i64 0, .int .i64 200, .bool false, .int .i64 0, .int .i64 1, .int .i64 0, .int .i64 0, .int .i64 0, .int .i64 4, .int .i64 200, .bool true, .int .i64 0, .int .i64 1, .int .i64 1, .int .i64 1, .int .i64 0, .int .i64 2, .int .i64 200, .bool false, .int .i64 1, .int .i64 0, .int .i64 0, .int .i64 1, .int .i64 2, .int .i64 3, .int .i64 300, .bool true, .int .i64 1, .int .i64 0, .int .i64 1, .int .i64 0, .int .i64 0, .int .i64 0, .int .i64 150, .bool false] ES))), o6⟩, below_two b5 (below_new (o := (.cells #[.int .i64 0, .int .i64 0, .int .i64 0, .int .i64 0, .int .i64 3, .int .i64 0, .int .i64 200, .bool false, .int .i64 0, .int .i64 0, .int .i64 1, .int .i64 1, .int .i64 1, .int .i64 0, .int .i64 200, .bool false, .int .i64 0, .int .i64 1, .int .i64 0, .int .i64 0, .int .i64 0, .int .i64 4, .int .i64 200, .bool true, .int .i64 0, .int .i64 1, .int .i64 1, .int .i64 1, .int .i64 0, .int .i64 2, .int .i64 200, .bool false, .int .i64 1, .int .i64 0, .int .i64 0, .int .i64 1, .int .i64 2, .int .i64 3, .int .i64 300, .bool true, .int .i64 1, .int .i64 0, .int .i64 1, .int .i64 0, .int .i64 0, .int .i64 0, .int .i64 150, .bool false] ES)))⟩
set_option maxRecDepth 100000 in
set_option maxHeartbeats 4000000 in
theorem small_any (w : World) : Calls Try.prog 5 #[] w (GivesMe w smallMe) := by
  obtain ⟨hm, ho, hb⟩ := small_world w
  go_enter Try.func5, Try.ntmps5
  go_wp2_with fail
  generalize ((((((w.alloc (.cells #[.int .i64 77, .slice (some ⟨w.heap.size + 1, 0, none⟩) 2 2, .slice (some ⟨w.heap.size + 1 + 1 + 1 + 1, 0, none⟩) 2 2, .slice (some ⟨w.heap.size + 1 + 1 + 1 + 1 + 1, 0, none⟩) 6 6] 26)).alloc (.cells #[.int .i64 0, .string ⟨#[97]⟩, .int .i64 100, .bool false, .int .i64 1, .string ⟨#[98]⟩, .int .i64 50, .bool false] EN)).alloc (.cells #[.int .i64 1] EI)).alloc (.cells #[.int .i64 0] EI)).alloc (.cells #[.int .i64 2, .int .i64 2, .slice (some ⟨w.heap.size + 1 + 1, 0, none⟩) 1 1, .int .i64 1, .int .i64 2, .slice (some ⟨w.heap.size + 1 + 1 + 1, 0, none⟩) 1 1] EM)).alloc (.cells #[.int .i64 0, .int .i64 0, .int .i64 0, .int .i64 0, .int .i64 3, .int .i64 0, .int .i64 200, .bool false, .int .i64 0, .int .i64 0, .int .i64 1, .int .i64 1, .int .i64 1, .int .i64 0, .int .i64 200, .bool false, .int .i64 0, .int .i64 1, .int .i64 0, .int .i64 0, .int .i64 0, .int .i64 4, .int .i64 200, .bool true, .int .i64 0, .int .i64 1, .int .i64 1, .int .i64 1, .int .i64 0, .int .i64 2, .int .i64 200, .bool false, .int .i64 1, .int .i64 0, .int .i64 0, .int .i64 1, .int .i64 2, .int .i64 3, .int .i64 300, .bool true, .int .i64 1, .int .i64 0, .int .i64 1, .int .i64 0, .int .i64 0, .int .i64 0, .int .i64 150, .bool false] ES)) = wz at hm ho hb ⊢
  obtain ⟨q0, q1, q2, q3⟩ := hm.all
  exact bodyPost_ret (v := mvVal (smallMv w.heap.size)) (by simp [mvVal, results, Try.results5, go_sem, q0, q1, q2, q3]) rfl ⟨smallMv w.heap.size, rfl, rfl, ho, hb⟩
set_option maxRecDepth 100000 in
set_option maxHeartbeats 4000000 in
theorem ssmall_any (w : World) : Calls Try.prog 4 #[] w (GivesMe w smallMe) := by
  obtain ⟨hm, ho, hb⟩ := small_world w
  go_enter Try.func4, Try.ntmps4
  go_wp2_with fail
  generalize ((((((w.alloc (.cells #[.int .i64 77, .slice (some ⟨w.heap.size + 1, 0, none⟩) 2 2, .slice (some ⟨w.heap.size + 1 + 1 + 1 + 1, 0, none⟩) 2 2, .slice (some ⟨w.heap.size + 1 + 1 + 1 + 1 + 1, 0, none⟩) 6 6] 26)).alloc (.cells #[.int .i64 0, .string ⟨#[97]⟩, .int .i64 100, .bool false, .int .i64 1, .string ⟨#[98]⟩, .int .i64 50, .bool false] EN)).alloc (.cells #[.int .i64 1] EI)).alloc (.cells #[.int .i64 0] EI)).alloc (.cells #[.int .i64 2, .int .i64 2, .slice (some ⟨w.heap.size + 1 + 1, 0, none⟩) 1 1, .int .i64 1, .int .i64 2, .slice (some ⟨w.heap.size + 1 + 1 + 1, 0, none⟩) 1 1] EM)).alloc (.cells #[.int .i64 0, .int .i64 0, .int .i64 0, .int .i64 0, .int .i64 3, .int .i64 0, .int .i64 200, .bool false, .int .i64 0, .int .i64 0, .int .i64 1, .int .i64 1, .int .i64 1, .int .i64 0, .int .i64 200, .bool false, .int .i64 0, .int .i64 1, .int .i64 0, .int .i64 0, .int .i64 0, .int .i64 4, .int .i64 200, .bool true, .int .i64 0, .int .i64 1, .int .i64 1, .int .i64 1, .int .i64 0, .int .i64 2, .int .i64 200, .bool false, .int .i64 1, .int .i64 0, .int .i64 0, .int .i64 1, .int .i64 2, .int .i64 3, .int .i64 300, .bool true, .int .i64 1, .int .i64 0, .int .i64 1, .int .i64 0, .int .i64 0, .int .i64 0, .int .i64 150, .bool false] ES)) = wz at hm ho hb ⊢
  obtain ⟨q0, q1, q2, q3⟩ := hm.all
  exact bodyPost_ret (v := mvVal (smallMv w.heap.size)) (by simp [mvVal, results, Try.results4, go_sem, q0, q1, q2, q3]) rfl ⟨smallMv w.heap.size, rfl, rfl, ho, hb⟩
end
end Go.Proofs.Ytfoflfmpbbpbgaa
