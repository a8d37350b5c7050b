/-
  Contracts of the program's, the model's and the laws' functions, and plain mathematics, on which a proof of this claim stands (part L).
-/

import Derived.Test.YthihjhidjnadaaaGreatP26A
import Derived.Test.YthihjhidjnadaaaGreatP26M
import Derived.Test.YthihjhidjnadaaaGreatP26N
import Derived.Test.YthihjhidjnadaaaGreatP26S
namespace Go.Proofs.YthihjhidjnadaaaGreat
section
open Go.RowKit
set_option maxRecDepth 100000 in
set_option maxHeartbeats 4000000 in
theorem szModesG_any (ao : Option Addr) (n cap : Nat) (cs : List Mc) (M : Int) (w : World) (hM0 : 0 ≤ M) (hM1 : M ≤ 1048576) (hr : RdM w ao n cs) (hn : n ≤ 9223372036854775807) :
    Calls Tryz.prog 111 #[.slice ao n cap, .int .i64 M] w fun e w' => e = .returned (.int .i64 (mzS (mds cs) M)) ∧ Below w.heap.size w w' := by
  have HL := Lib.hid ((mds_len cs).trans hr.len)
  have HR := Lib.hid hr; clear hr
  by_cases hbig : M < (n : Int)
  · have HF := Lib.hid (show mzS (mds cs) M = -1 from by unfold mzS; rw [if_pos (by rw [HL.out]; exact hbig)])
    have hq : M - (n : Int) < 0 := by omega
    have hw : IntKind.i64.wrap (M - (n : Int)) = M - (n : Int) := by rw [IntKind.wrap_i64]; omega
    go_enter Tryz.func111, Tryz.ntmps111
    go_wp2_with fail
    go_ret
    rw [HF.out]
    exact ⟨rfl, Below.refl _ _⟩
  have hq : ¬ M - (n : Int) < 0 := by omega
  have hw : IntKind.i64.wrap (M - (n : Int)) = M - (n : Int) := by rw [IntKind.wrap_i64]; omega
  have HF := Lib.hid (show mzS (mds cs) M = mzGo ((mds cs).drop 0) (M - (n : Int)) from by unfold mzS; rw [if_neg (by rw [HL.out]; exact hbig), HL.out]; rfl)
  have hm0 : 0 ≤ M - (n : Int) := by omega
  go_enter Tryz.func111, Tryz.ntmps111
  go_wp2_with fail
  clear hw
  go_loopw [1, 5] (fun l i wr => ∃ (k : Nat) (m : Int), k ≤ n ∧ i = .int .i64 k ∧ l = .int .i64 m ∧ 0 ≤ m ∧ m ≤ 1048576 ∧ Hid (mzS (mds cs) M = mzGo ((mds cs).drop k) m) ∧ Below w.heap.size w wr) (fun _ i _ => n - (intOf i).toNat)
  case atStart => exact ⟨0, M - (n : Int), Nat.zero_le _, rfl, rfl, by omega, by omega, HF.out, Below.refl _ _⟩
  case round =>
    clear hq hm0 HF
    obtain ⟨k, m, hk, rfl, rfl, hm0, hm1, hsz, hb⟩ := hrel
    by_cases hlt : k < n
    · have hkt : k < (mds cs).length := by rw [HL.out]; exact hlt
      obtain ⟨g, off, rfl, hg, hx, hrd⟩ := HR.out.at hlt
      replace hx := hx.below hb hg
      have hss : (mcOf cs k).md.next.length ≤ 9223372036854775807 := by have := hrd.le; have := hrd.cap; omega
      have hdr := mzGo_drop hkt m
      rw [mdOf_mds] at hdr
      clear hrd
      generalize mcOf cs k = x at hx hss hdr
      rw [← hsz.out] at hdr
      have hcall := fun W => szMode_any x m W hm0 hm1 hss
      unfold mcVal at hcall
      have HCALL := Lib.hid hcall; have HDR := Lib.hid hdr; have HB := Lib.hid hb
      clear hcall hdr hkt hb hsz
      obtain ⟨h0, h1, h2⟩ := hx
      by_cases hc : m < x.md.next.length
      · have hif : (if m < (x.md.next.length : Int) then (-1 : Int) else m - (x.md.next.length : Int)) = -1 := if_pos hc
        have hF2 := HDR.out
        rw [if_pos hc] at hF2
        have HF2 := Lib.hid hF2; clear hF2
        go_wp2_with fail
        refine (HCALL.out _).mono ?_
        rintro e w2 ⟨rfl, b2⟩
        rw [hif]
        clear h0 h1 h2
        go_wp2_with fail
        go_ret
        rw [HF2.out]
        exact ⟨rfl, below_two HB.out b2⟩
      · have hif : (if m < (x.md.next.length : Int) then (-1 : Int) else m - (x.md.next.length : Int)) = m - (x.md.next.length : Int) := if_neg hc
        have hF2 := HDR.out
        rw [if_neg hc] at hF2
        have HF2 := Lib.hid hF2; clear hF2
        go_wp2_with fail
        refine (HCALL.out _).mono ?_
        rintro e w2 ⟨rfl, b2⟩
        rw [hif]
        clear h0 h1 h2 hif
        obtain ⟨m2, hm2⟩ : ∃ m2, m2 = m - (x.md.next.length : Int) := ⟨_, rfl⟩
        rw [← hm2] at HF2 ⊢
        have h20 : 0 ≤ m2 := by omega
        have h21 : m2 ≤ 1048576 := by omega
        have h22 : ¬ m2 < 0 := by omega
        clear hm2 hc
        go_wp2_with fail
        go_roundw
        case rel => exact ⟨k + 1, m2, by omega, by go_num, rfl, h20, h21, HF2.out, below_two HB.out b2⟩
        case measure => simp [intOf]; omega
    · have hkn : k = n := by omega
      subst hkn
      have HF2 := Lib.hid (show mzS (mds cs) M = m from by rw [hsz.out, List.drop_of_length_le (by rw [HL.out]; exact Nat.le_refl _)]; rfl)
      have HB := Lib.hid hb; clear hb
      go_wp2_with fail
      go_ret
      rw [HF2.out]
      exact ⟨rfl, HB.out⟩
theorem szSlotsG_any (ao : Option Addr) (n cap : Nat) (t : List Sl) (M : Int) (w : World) (hM0 : 0 ≤ M) (hM1 : M ≤ 1048576) (hl : t.length = n) (hn : n ≤ 9223372036854775807) :
    Calls Tryz.prog 112 #[.slice ao n cap, .int .i64 M] w fun e w' => e = .returned (.int .i64 (szL t M)) ∧ w = w' := by
  have HL := Lib.hid hl
  clear hl
  have hw : IntKind.i64.wrap (M - n) = M - n := by rw [IntKind.wrap_i64]; omega
  by_cases hbig : M < n
  · have HF := Lib.hid (show szL t M = -1 from by unfold szL; rw [if_pos (by rw [HL.out]; exact hbig)])
    have hq : M - n < 0 := by omega
    go_enter Tryz.func112, Tryz.ntmps112
    go_wp2_with fail
    go_ret
    rw [HF.out]
    exact ⟨rfl, rfl⟩
  have hq : ¬ M - n < 0 := by omega
  have HF := Lib.hid (show szL t M = M - n from by unfold szL; rw [if_neg (by rw [HL.out]; exact hbig), HL.out])
  go_enter Tryz.func112, Tryz.ntmps112
  go_wp2_with fail
  go_ret
  rw [HF.out]
  exact ⟨rfl, rfl⟩
def szMe (m : Me) : Int :=
  if szS m.nodes 1048576 < 0 then -1 else if mzS m.modes (szS m.nodes 1048576) < 0 then -1 else if szL m.slots (mzS m.modes (szS m.nodes 1048576)) < 0 then -1 else szL m.slots (mzS m.modes (szS m.nodes 1048576))
theorem mzS_okG {t : List Md} {M : Int} (hM : M ≤ 1048576) (h : 0 ≤ mzS t M) : t.length ≤ 1048576 ∧ mTot t ≤ 3145728 ∧ (∀ x ∈ t, x.next.length ≤ 1048576) ∧ mzS t M ≤ 1048576 := by
  unfold mzS at h ⊢
  split at h
  · omega
  · rename_i hc
    rw [if_neg hc]
    obtain ⟨h1, h2⟩ := mzGo_tot _ _ h
    have h3 : mzGo t (M - t.length) ≤ 1048576 := by
      rcases mzGo_neg t (M - t.length) (by omega) with h4 | h4
      · omega
      · omega
    exact ⟨by omega, by omega, fun x hx => by have := h2 x hx; omega, h3⟩
theorem szL_okG {t : List Sl} {M : Int} (hM : M ≤ 1048576) (h : 0 ≤ szL t M) : t.length ≤ 1048576 := by
  unfold szL at h
  split at h
  · omega
  · omega
structure Small (m : Me) : Prop where
  nl : m.nodes.length ≤ 1048576
  ns : smallN m.nodes
  ml : m.modes.length ≤ 1048576
  mt : mTot m.modes ≤ 3145728
  ms : ∀ x ∈ m.modes, x.next.length ≤ 1048576
  el : m.slots.length ≤ 1048576
theorem szMe_ok {m : Me} (h : ¬ szMe m < 0) : Small m := by
  unfold szMe at h
  split at h
  · omega
  · rename_i h1
    split at h
    · omega
    · rename_i h2
      split at h
      · omega
      · rename_i h3
        have hn := szS_ok (t := m.nodes) (by omega)
        have hle : szS m.nodes 1048576 ≤ 1048576 := by rcases szS_neg m.nodes with e | e <;> omega
        have hm := mzS_okG hle (t := m.modes) (by omega)
        have he := szL_okG hm.2.2.2 (t := m.slots) (by omega)
        exact ⟨hn.1, hn.2, hm.1, hm.2.1, hm.2.2.1, he⟩
theorem Small.rd {w : World} {v : Mv} (hs : Small v.me) (h : MeRow w v) : RdMe w v := by
  have e1 : v.me.modes.length = v.cs.length := mds_len v.cs
  have h1 := h.n; have h2 := h.m; have h3 := h.e
  unfold NdRow maxLen at h1; unfold MdRow maxLen at h2; unfold SlRow maxLen at h3
  exact ⟨h1.2.2.1, h2.2.2, h3.2.2.1, h1.1, by omega, h2.1, by omega, h3.1, by omega, hs.nl, by have := hs.ml; omega, hs.el, hs.ns, fun c hc => hs.ms c.md (List.mem_map_of_mem hc)⟩
set_option maxRecDepth 100000 in
set_option maxHeartbeats 4000000 in
theorem szMe_any (v : Mv) (w : World) (h : MeRow w v) :
    Calls Tryz.prog 57 #[mvVal v, .int .i64 1048576] w fun e w' => e = .returned (.int .i64 (szMe v.me)) ∧ Below w.heap.size w w' := by
  have hn := h.n; have hm := h.m; have he := h.e
  unfold NdRow maxLen at hn; unfold MdRow maxLen at hm; unfold SlRow maxLen at he
  have HB := Lib.hid ((Below.refl w.heap.size w).alloc (Nat.le_refl _) (.cells #[.int .i64 v.id, .slice v.no v.n.length v.nc, .slice v.mo v.cs.length v.mc, .slice v.eo v.e.length v.ec] 75))
  have HV := Lib.hid (MvAt.new (T := 75) (v := v) w)
  have HCN := Lib.hid (fun W (hW : Below w.heap.size w W) => szNodes_any v.no v.n.length v.nc v.n W (hn.2.2.1.below hW) (by omega) (fun i hi => by have := hn.2.2.2 i hi; omega))
  have HCM := Lib.hid (fun W (hW : Below w.heap.size w W) M h0 h1 => szModesG_any v.mo v.cs.length v.mc v.cs M W h0 h1 (hm.2.2.below hW) (by omega))
  have HCE := Lib.hid (fun W M h0 h1 => szSlotsG_any v.eo v.e.length v.ec v.e M W h0 h1 rfl (by omega))
  have hn0 := szS_neg v.n
  obtain ⟨z, hz⟩ : ∃ z, z = szMe v.me := ⟨_, rfl⟩
  have HZ := Lib.hid (show z = if szS v.n 1048576 < 0 then -1 else if mzS (mds v.cs) (szS v.n 1048576) < 0 then -1 else if szL v.e (mzS (mds v.cs) (szS v.n 1048576)) < 0 then -1 else szL v.e (mzS (mds v.cs) (szS v.n 1048576)) from hz)
  rw [← hz]
  clear hz hn hm he h
  generalize szS v.n 1048576 = a at HCN HZ hn0
  by_cases ha : a < 0
  · have HF := Lib.hid (show z = -1 from by rw [HZ.out, if_pos ha])
    clear hn0 HZ
    unfold mvVal
    go_enter Tryz.func57, Tryz.ntmps57
    go_upto_region 1 with fail
    generalize w.alloc (.cells #[.int .i64 v.id, .slice v.no v.n.length v.nc, .slice v.mo v.cs.length v.mc, .slice v.eo v.e.length v.ec] 75) = w1 at HB HV ⊢
    obtain ⟨z0, z1, z2, z3⟩ := HV.out.all
    go_wp2_with fail
    refine (HCN.out _ HB.out).mono ?_
    rintro e w2 ⟨rfl, b2⟩
    clear z0 z1 z2 z3
    go_wp2_with fail
    go_ret
    rw [HF.out]
    exact ⟨rfl, below_two HB.out b2⟩
  have ha1 : 0 ≤ a := by omega
  have ha2 : a ≤ 1048576 := by omega
  have HCM2 := Lib.hid (fun W hW => HCM.out W hW a ha1 ha2)
  have HZ2 := Lib.hid (show z = if mzS (mds v.cs) a < 0 then -1 else if szL v.e (mzS (mds v.cs) a) < 0 then -1 else szL v.e (mzS (mds v.cs) a) from by rw [HZ.out, if_neg ha])
  have hok := fun h0 => (mzS_okG ha2 (t := mds v.cs) h0).2.2.2
  clear hn0 HZ HCM ha1 ha2
  generalize mzS (mds v.cs) a = b at HCM2 HZ2 hok
  by_cases hb : b < 0
  · have HF := Lib.hid (show z = -1 from by rw [HZ2.out, if_pos hb])
    clear HZ2 hok
    unfold mvVal
    go_enter Tryz.func57, Tryz.ntmps57
    go_upto_region 1 with fail
    generalize w.alloc (.cells #[.int .i64 v.id, .slice v.no v.n.length v.nc, .slice v.mo v.cs.length v.mc, .slice v.eo v.e.length v.ec] 75) = w1 at HB HV ⊢
    obtain ⟨z0, z1, z2, z3⟩ := HV.out.all
    go_wp2_with fail
    refine (HCN.out _ HB.out).mono ?_
    rintro e w2 ⟨rfl, b2⟩
    have HB2 := Lib.hid (below_two HB.out b2)
    have HV2 := Lib.hid (HV.out.below b2 HV.out.lt)
    clear z0 z1 z2 z3 b2 HB HV
    obtain ⟨z0, z1, z2, z3⟩ := HV2.out.all
    go_wp2_with fail
    refine (HCM2.out _ HB2.out).mono ?_
    rintro e w3 ⟨rfl, b3⟩
    clear z0 z1 z2 z3
    go_wp2_with fail
    go_ret
    rw [HF.out]
    exact ⟨rfl, below_two HB2.out b3⟩
  have hb1 : 0 ≤ b := by omega
  have hb2 : b ≤ 1048576 := hok hb1
  have HCE2 := Lib.hid (fun W => HCE.out W b hb1 hb2)
  have HZ3 := Lib.hid (show z = if szL v.e b < 0 then -1 else szL v.e b from by rw [HZ2.out, if_neg hb])
  clear HZ2 hok HCE hb1 hb2
  generalize szL v.e b = c at HCE2 HZ3
  by_cases hc : c < 0
  · have HF := Lib.hid (show z = -1 from by rw [HZ3.out, if_pos hc])
    clear HZ3
    unfold mvVal
    go_enter Tryz.func57, Tryz.ntmps57
    go_upto_region 1 with fail
    generalize w.alloc (.cells #[.int .i64 v.id, .slice v.no v.n.length v.nc, .slice v.mo v.cs.length v.mc, .slice v.eo v.e.length v.ec] 75) = w1 at HB HV ⊢
    obtain ⟨z0, z1, z2, z3⟩ := HV.out.all
    go_wp2_with fail
    refine (HCN.out _ HB.out).mono ?_
    rintro e w2 ⟨rfl, b2⟩
    have HB2 := Lib.hid (below_two HB.out b2)
    have HV2 := Lib.hid (HV.out.below b2 HV.out.lt)
    clear z0 z1 z2 z3 b2 HB HV
    obtain ⟨z0, z1, z2, z3⟩ := HV2.out.all
    go_wp2_with fail
    refine (HCM2.out _ HB2.out).mono ?_
    rintro e w3 ⟨rfl, b3⟩
    have HB3 := Lib.hid (below_two HB2.out b3)
    have HV3 := Lib.hid (HV2.out.below b3 HV2.out.lt)
    clear z0 z1 z2 z3 b3 HB2 HV2
    obtain ⟨z0, z1, z2, z3⟩ := HV3.out.all
    go_wp2_with fail
    refine (HCE2.out _).mono ?_
    rintro e w4 ⟨rfl, rfl⟩
    clear z0 z1 z2 z3
    go_wp2_with fail
    go_ret
    rw [HF.out]
    exact ⟨rfl, HB3.out⟩
  · have HF := Lib.hid (show z = c from by rw [HZ3.out, if_neg hc])
    clear HZ3
    unfold mvVal
    go_enter Tryz.func57, Tryz.ntmps57
    go_upto_region 1 with fail
    generalize w.alloc (.cells #[.int .i64 v.id, .slice v.no v.n.length v.nc, .slice v.mo v.cs.length v.mc, .slice v.eo v.e.length v.ec] 75) = w1 at HB HV ⊢
    obtain ⟨z0, z1, z2, z3⟩ := HV.out.all
    go_wp2_with fail
    refine (HCN.out _ HB.out).mono ?_
    rintro e w2 ⟨rfl, b2⟩
    have HB2 := Lib.hid (below_two HB.out b2)
    have HV2 := Lib.hid (HV.out.below b2 HV.out.lt)
    clear z0 z1 z2 z3 b2 HB HV
    obtain ⟨z0, z1, z2, z3⟩ := HV2.out.all
    go_wp2_with fail
    refine (HCM2.out _ HB2.out).mono ?_
    rintro e w3 ⟨rfl, b3⟩
    have HB3 := Lib.hid (below_two HB2.out b3)
    have HV3 := Lib.hid (HV2.out.below b3 HV2.out.lt)
    clear z0 z1 z2 z3 b3 HB2 HV2
    obtain ⟨z0, z1, z2, z3⟩ := HV3.out.all
    go_wp2_with fail
    refine (HCE2.out _).mono ?_
    rintro e w4 ⟨rfl, rfl⟩
    clear z0 z1 z2 z3
    go_wp2_with fail
    go_ret
    rw [HF.out]
    exact ⟨rfl, HB3.out⟩
end

section
open Go.RowKit
abbrev EN : Nat := 130
abbrev EM : Nat := 99
abbrev EI : Nat := 2
abbrev ES : Nat := 65
def Mv.vn (v : Mv) : Value := .slice v.no v.n.length v.nc
def Mv.vm (v : Mv) : Value := .slice v.mo v.cs.length v.mc
def Mv.ve (v : Mv) : Value := .slice v.eo v.e.length v.ec
structure OwnMe (w : World) (base : Nat) (v : Mv) : Prop where
  n : OwnN EN w base v.vn v.n
  m : OwnM EM EI w base v.vm v.cs
  e : OwnE ES w base v.ve v.e
def GivesMe (w : World) (m : Me) (e : Ending) (w' : World) : Prop := ∃ v : Mv, v.me = m ∧ e = .returned (mvVal v) ∧ OwnMe w' w.heap.size v ∧ Below w.heap.size w w'
def mes (v : Mv) : List It := [nds EN v.vn v.n] ++ (mis EM EI v.vm v.cs ++ [itsE ES v.ve v.e])
section
variable {w w' w0 : World} {base : Nat} {v : Mv}
theorem OwnMe.below (h : OwnMe w base v) (hb : Below w.heap.size w w') : OwnMe w' base v := ⟨h.n.below hb, h.m.below hb, h.e.below hb⟩
theorem OwnMe.more (h : OwnMe w base v) {base' : Nat} (hb : base' ≤ base) : OwnMe w base' v := ⟨h.n.more hb, h.m.more hb, h.e.more hb⟩
theorem OwnMe.rd (h : OwnMe w base v) (hs : Small v.me) : RdMe w v := by
  have e1 : v.me.modes.length = v.cs.length := mds_len v.cs
  have h1 : RdN w v.no v.n.length v.n := by
    obtain ⟨ao, cap, e, -, r⟩ := h.n.get
    cases e; exact r
  have h2 : RdM w v.mo v.cs.length v.cs := by
    obtain ⟨ao, cap, e, -, r⟩ := h.m.get
    cases e; exact r
  have h3 : RdE w v.eo v.e.length v.e := by
    obtain ⟨ao, cap, e, -, r⟩ := h.e.get
    cases e; exact r
  exact ⟨h1, h2, h3, h.n.cap.1, h.n.cap.2, h.m.cap.1, h.m.cap.2, h.e.cap.1, h.e.cap.2, hs.nl, by have := hs.ml; omega, hs.el, hs.ns, fun c hc => hs.ms c.md (List.mem_map_of_mem hc)⟩
theorem OwnMe.items (h : OwnMe w base v) : (∀ p ∈ mes v, w.ownsRow base p.E p.sz p.v p.n p.cells) ∧ (mes v).Pairwise fun p q => ∀ k, p.v.ownBlock = some k → q.v.ownBlock ≠ some k := by
  obtain ⟨hm1, hm2⟩ := h.m.items (show EM ≠ EI by decide)
  have hnx : ∀ p ∈ mis EM EI v.vm v.cs, p.E = EM ∨ p.E = EI := fun p hp => by
    rcases List.mem_cons.1 hp with rfl | hp
    · exact .inl rfl
    · obtain ⟨c, -, rfl⟩ := List.mem_map.1 hp
      exact .inr rfl
  refine ⟨fun p hp => ?_, ?_⟩
  · rcases List.mem_append.1 hp with hp | hp
    · rw [List.mem_singleton] at hp; subst hp; exact h.n
    · rcases List.mem_append.1 hp with hp | hp
      · exact hm1 p hp
      · rw [List.mem_singleton] at hp; subst hp; exact h.e
  · unfold mes
    rw [List.pairwise_append, List.pairwise_append]
    refine ⟨List.pairwise_singleton _ _, ⟨hm2, List.pairwise_singleton _ _, fun p hp q hq k e1 e2 => ?_⟩, fun p hp q hq k e1 e2 => ?_⟩
    · rw [List.mem_singleton] at hq; subst hq
      exact rows_ne (hm1 p hp) (show w.ownsRow base ES 8 v.ve _ _ from h.e) (by rcases hnx p hp with e | e <;> rw [e] <;> decide) k e1 e2
    · rw [List.mem_singleton] at hp; subst hp
      rcases List.mem_append.1 hq with hq | hq
      · exact rows_ne (show w.ownsRow base EN 4 v.vn _ _ from h.n) (hm1 q hq) (by rcases hnx q hq with e | e <;> rw [e] <;> decide) k e1 e2
      · rw [List.mem_singleton] at hq; subst hq
        exact rows_ne (show w.ownsRow base EN 4 v.vn _ _ from h.n) (show w.ownsRow base ES 8 v.ve _ _ from h.e) (by decide) k e1 e2
theorem Hold.makeMe {L : List It} (h : Hold w0 w L) (o : OwnMe w' w.heap.size v) (b : Below w.heap.size w w') : Hold w0 w' (mes v ++ L) := h.makeL _ o.items.1 o.items.2 b
end
section
variable {w W W' : World} {T b : Nat} {v : Mv}
theorem MvAt.set0 (h : MvAt T w b v) (y : Int) : MvAt T (w.setCell ⟨b, 0, none⟩ (.int .i64 y)) b ⟨y, v.n, v.no, v.nc, v.cs, v.mo, v.mc, v.e, v.eo, v.ec⟩ := by
  have := heap_setCell_same w b 0 _ _ (.int .i64 y) h
  simpa [MvAt] using this
theorem MvAt.set1 (h : MvAt T w b v) (n : List Nd) (no : Option Addr) (nc : Nat) : MvAt T (w.setCell ⟨b, 1, none⟩ (.slice no n.length nc)) b ⟨v.id, n, no, nc, v.cs, v.mo, v.mc, v.e, v.eo, v.ec⟩ := by
  have := heap_setCell_same w b 1 _ _ (.slice no n.length nc) h
  simpa [MvAt] using this
theorem MvAt.set2 (h : MvAt T w b v) (cs : List Mc) (mo : Option Addr) (mc : Nat) : MvAt T (w.setCell ⟨b, 2, none⟩ (.slice mo cs.length mc)) b ⟨v.id, v.n, v.no, v.nc, cs, mo, mc, v.e, v.eo, v.ec⟩ := by
  have := heap_setCell_same w b 2 _ _ (.slice mo cs.length mc) h
  simpa [MvAt] using this
theorem MvAt.set3 (h : MvAt T w b v) (e : List Sl) (eo : Option Addr) (ec : Nat) : MvAt T (w.setCell ⟨b, 3, none⟩ (.slice eo e.length ec)) b ⟨v.id, v.n, v.no, v.nc, v.cs, v.mo, v.mc, e, eo, ec⟩ := by
  have := heap_setCell_same w b 3 _ _ (.slice eo e.length ec) h
  simpa [MvAt] using this
def setMv (w : World) (b : Nat) (v : Mv) : World := (((w.setCell ⟨b, 0, none⟩ (.int .i64 v.id)).setCell ⟨b, 1, none⟩ (.slice v.no v.n.length v.nc)).setCell ⟨b, 2, none⟩ (.slice v.mo v.cs.length v.mc)).setCell ⟨b, 3, none⟩ (.slice v.eo v.e.length v.ec)
theorem MvAt.put {y : Mv} (h : MvAt T w b y) (v : Mv) : MvAt T (setMv w b v) b v := (((h.set0 v.id).set1 v.n v.no v.nc).set2 v.cs v.mo v.mc).set3 v.e v.eo v.ec
theorem below_setMv {B : Nat} (hb : B ≤ b) (v : Mv) : Below B w (setMv w b v) := ((((Below.refl _ _).setCell hb _).setCell hb _).setCell hb _).setCell hb _
structure ToMe (w W : World) (v y : Mv) : Prop where
  box : MvAt 75 W w.heap.size v
  res : MvAt 28 W (w.heap.size + 1) Mv.zero
  var : MvAt 28 W (w.heap.size + 2) y
  below : Below w.heap.size w W
theorem ToMe.call {y : Mv} (h : ToMe w W v y) (b : Below W.heap.size W W') : ToMe w W' v y := ⟨h.box.below b h.box.lt, h.res.below b h.res.lt, h.var.below b h.var.lt, below_two h.below b⟩
theorem ToMe.put {y z : Mv} (h : ToMe w W v y) (b : Below (w.heap.size + 2) W W') (hv : MvAt 28 W' (w.heap.size + 2) z) : ToMe w W' v z := ⟨h.box.below b (by omega), h.res.below b (by omega), hv, h.below.trans (b.mono (by omega))⟩
theorem ToMe.start (w : World) (v : Mv) : ToMe w (((w.alloc (.cells #[.int .i64 v.id, .slice v.no v.n.length v.nc, .slice v.mo v.cs.length v.mc, .slice v.eo v.e.length v.ec] 75)).alloc (.cells #[.int .i64 0, .slice none 0 0, .slice none 0 0, .slice none 0 0] 28)).alloc (.cells #[.int .i64 0, .slice none 0 0, .slice none 0 0, .slice none 0 0] 28)) v Mv.zero := by
  have b1 : Below (w.alloc (.cells #[.int .i64 v.id, .slice v.no v.n.length v.nc, .slice v.mo v.cs.length v.mc, .slice v.eo v.e.length v.ec] 75)).heap.size (w.alloc (.cells #[.int .i64 v.id, .slice v.no v.n.length v.nc, .slice v.mo v.cs.length v.mc, .slice v.eo v.e.length v.ec] 75)) ((w.alloc (.cells #[.int .i64 v.id, .slice v.no v.n.length v.nc, .slice v.mo v.cs.length v.mc, .slice v.eo v.e.length v.ec] 75)).alloc (.cells #[.int .i64 0, .slice none 0 0, .slice none 0 0, .slice none 0 0] 28)) := (Below.refl _ _).alloc (Nat.le_refl _) _
  have b2 : Below ((w.alloc (.cells #[.int .i64 v.id, .slice v.no v.n.length v.nc, .slice v.mo v.cs.length v.mc, .slice v.eo v.e.length v.ec] 75)).alloc (.cells #[.int .i64 0, .slice none 0 0, .slice none 0 0, .slice none 0 0] 28)).heap.size ((w.alloc (.cells #[.int .i64 v.id, .slice v.no v.n.length v.nc, .slice v.mo v.cs.length v.mc, .slice v.eo v.e.length v.ec] 75)).alloc (.cells #[.int .i64 0, .slice none 0 0, .slice none 0 0, .slice none 0 0] 28)) (((w.alloc (.cells #[.int .i64 v.id, .slice v.no v.n.length v.nc, .slice v.mo v.cs.length v.mc, .slice v.eo v.e.length v.ec] 75)).alloc (.cells #[.int .i64 0, .slice none 0 0, .slice none 0 0, .slice none 0 0] 28)).alloc (.cells #[.int .i64 0, .slice none 0 0, .slice none 0 0, .slice none 0 0] 28)) := (Below.refl _ _).alloc (Nat.le_refl _) _
  have h1 : MvAt 28 ((w.alloc (.cells #[.int .i64 v.id, .slice v.no v.n.length v.nc, .slice v.mo v.cs.length v.mc, .slice v.eo v.e.length v.ec] 75)).alloc (.cells #[.int .i64 0, .slice none 0 0, .slice none 0 0, .slice none 0 0] 28)) (w.alloc (.cells #[.int .i64 v.id, .slice v.no v.n.length v.nc, .slice v.mo v.cs.length v.mc, .slice v.eo v.e.length v.ec] 75)).heap.size Mv.zero := MvAt.new (v := Mv.zero) (w.alloc (.cells #[.int .i64 v.id, .slice v.no v.n.length v.nc, .slice v.mo v.cs.length v.mc, .slice v.eo v.e.length v.ec] 75))
  rw [World.size_alloc] at h1
  have h2 : MvAt 28 (((w.alloc (.cells #[.int .i64 v.id, .slice v.no v.n.length v.nc, .slice v.mo v.cs.length v.mc, .slice v.eo v.e.length v.ec] 75)).alloc (.cells #[.int .i64 0, .slice none 0 0, .slice none 0 0, .slice none 0 0] 28)).alloc (.cells #[.int .i64 0, .slice none 0 0, .slice none 0 0, .slice none 0 0] 28)) ((w.alloc (.cells #[.int .i64 v.id, .slice v.no v.n.length v.nc, .slice v.mo v.cs.length v.mc, .slice v.eo v.e.length v.ec] 75)).alloc (.cells #[.int .i64 0, .slice none 0 0, .slice none 0 0, .slice none 0 0] 28)).heap.size Mv.zero := MvAt.new (v := Mv.zero) ((w.alloc (.cells #[.int .i64 v.id, .slice v.no v.n.length v.nc, .slice v.mo v.cs.length v.mc, .slice v.eo v.e.length v.ec] 75)).alloc (.cells #[.int .i64 0, .slice none 0 0, .slice none 0 0, .slice none 0 0] 28))
  rw [World.size_alloc, World.size_alloc] at h2
  exact ⟨((MvAt.new w).below b1 (by simp)).below b2 (by simp; omega), h1.below b2 (by simp), h2, below_two ((Below.refl _ _).alloc (Nat.le_refl _) _) (below_two b1 b2)⟩
end
theorem OwnN.low {E : Nat} {w w' : World} {base g : Nat} {v : Value} {t : List Nd} (h : OwnN E w base v t) (hg : w.grownBy w' (some g)) (hb : g < base) : OwnN E w' base v t := by
  refine h.only hg ?_
  cases hk : v.ownBlock with
  | none => exact .inl rfl
  | some k => exact .inr (fun e => by cases e; have := (h.block _ hk).1; omega)
theorem OwnM.low {E EI : Nat} {w w' : World} {base g : Nat} {v : Value} {cs : List Mc} (h : OwnM E EI w base v cs) (hg : w.grownBy w' (some g)) (hb : g < base) : OwnM E EI w' base v cs := h.old hg hb
theorem OwnE.low {E : Nat} {w w' : World} {base g : Nat} {v : Value} {t : List Sl} (h : OwnE E w base v t) (hg : w.grownBy w' (some g)) (hb : g < base) : OwnE E w' base v t := h.old hg hb
theorem grown_setMv (w : World) (g : Nat) (v : Mv) : w.grownBy (setMv w g v) (some g) := by
  unfold setMv
  exact grown_trans (grown_trans (grown_trans (grown_set _ _ _ _) (grown_set _ _ _ _)) (grown_set _ _ _ _)) (grown_set _ _ _ _)
set_option maxRecDepth 100000 in
set_option maxHeartbeats 4000000 in
theorem toMe_any (v : Mv) (w : World) (hr : RdMe w v) : Calls Tryz.prog 58 #[mvVal v] w (GivesMe w v.me) := by
  have HT0 := Lib.hid (ToMe.start w v)
  have HRD := Lib.hid (fun W (hW : Below w.heap.size w W) => hr.below hW)
  have HMS := Lib.hid hr.ms
  have HL := Lib.hid (⟨hr.nl, hr.ml, hr.el⟩ : v.n.length ≤ 1048576 ∧ v.cs.length ≤ 1048576 ∧ v.e.length ≤ 1048576)
  clear hr
  unfold mvVal
  go_enter Tryz.func58, Tryz.ntmps58
  go_upto_region 2 with fail
  generalize ((w.alloc (.cells #[.int .i64 v.id, .slice v.no v.n.length v.nc, .slice v.mo v.cs.length v.mc, .slice v.eo v.e.length v.ec] 75)).alloc (.cells #[.int .i64 0, .slice none 0 0, .slice none 0 0, .slice none 0 0] 28)).alloc (.cells #[.int .i64 0, .slice none 0 0, .slice none 0 0, .slice none 0 0] 28) = w1 at HT0 ⊢
  obtain ⟨q0, q1, q2, q3⟩ := HT0.out.box.all
  have hv := HT0.out.var.all
  dsimp only [Mv.zero, List.length_nil] at hv
  obtain ⟨d0, d1, d2, d3⟩ := hv
  have f0 := HT0.out.var.f 0
  go_upto_region 3 with fail
  have HT1 := Lib.hid (HT0.out.put ((Below.refl _ _).setCell (by exact Nat.le_refl _) _) (HT0.out.var.set0 v.id))
  generalize w1.setCell ⟨w.heap.size + 2, 0, none⟩ (.int .i64 v.id) = w2 at HT1 ⊢
  clear q0 q1 q2 q3 d0 d1 d2 d3 f0 HT0
  obtain ⟨q0, q1, q2, q3⟩ := HT1.out.box.all
  have hv := HT1.out.var.all
  dsimp only [Mv.zero, List.length_nil] at hv
  obtain ⟨d0, d1, d2, d3⟩ := hv
  have f1 := HT1.out.var.f 1
  go_wp2_with fail
  refine (toNodes_any _ _ _ _ _ (HRD.out _ HT1.out.below).rn HL.out.1).mono ?_
  rintro e w3 m1
  obtain ⟨a1, c1, rfl, o1, -, b1⟩ := m1.get
  have HT1c := Lib.hid (HT1.out.call b1)
  replace o1 := o1.more (base' := w.heap.size + 3) (HT1.out.var.lt)
  have HO1 := Lib.hid o1
  clear q0 q1 q2 q3 d0 d1 d2 d3 f1 b1 o1 m1 HT1
  obtain ⟨q0, q1, q2, q3⟩ := HT1c.out.box.all
  have hv := HT1c.out.var.all
  dsimp only [Mv.zero, List.length_nil] at hv
  obtain ⟨d0, d1, d2, d3⟩ := hv
  have f1 := HT1c.out.var.f 1
  go_upto_region 4 with fail
  have HT2 := Lib.hid (HT1c.out.put ((Below.refl _ _).setCell (by exact Nat.le_refl _) _) (HT1c.out.var.set1 v.n a1 c1))
  have gs := grown_set w3 (w.heap.size + 2) 1 (.slice a1 v.n.length c1)
  have HO1c := Lib.hid (HO1.out.low gs (Nat.lt_succ_self _)); clear HO1; have HO1 := HO1c; clear HO1c
  generalize w3.setCell ⟨w.heap.size + 2, 1, none⟩ (.slice a1 v.n.length c1) = w4 at HT2 HO1 ⊢
  clear q0 q1 q2 q3 d0 d1 d2 d3 f1 gs HT1c
  obtain ⟨q0, q1, q2, q3⟩ := HT2.out.box.all
  have hv := HT2.out.var.all
  dsimp only [Mv.zero, List.length_nil] at hv
  obtain ⟨d0, d1, d2, d3⟩ := hv
  have f2 := HT2.out.var.f 2
  go_wp2_with fail
  refine (toModes_any _ _ _ _ _ (HRD.out _ HT2.out.below).rm HL.out.2.1 HMS.out).mono ?_
  rintro e w5 m2
  obtain ⟨a2, c2, cs1, hcs, rfl, o2, -, b2⟩ := m2.get
  have HCS := Lib.hid hcs
  have HT2c := Lib.hid (HT2.out.call b2)
  replace o2 := o2.more (base' := w.heap.size + 3) (HT2.out.var.lt)
  have HO1c := Lib.hid (HO1.out.below b2); clear HO1; have HO1 := HO1c; clear HO1c
  have HO2 := Lib.hid o2
  clear q0 q1 q2 q3 d0 d1 d2 d3 f2 b2 o2 m2 HT2 hcs
  obtain ⟨q0, q1, q2, q3⟩ := HT2c.out.box.all
  have hv := HT2c.out.var.all
  dsimp only [Mv.zero, List.length_nil] at hv
  obtain ⟨d0, d1, d2, d3⟩ := hv
  have f2 := HT2c.out.var.f 2
  go_upto_region 5 with fail
  have HT3 := Lib.hid (HT2c.out.put ((Below.refl _ _).setCell (by exact Nat.le_refl _) _) (HT2c.out.var.set2 cs1 a2 c2))
  have gs := grown_set w5 (w.heap.size + 2) 2 (.slice a2 cs1.length c2)
  have HO1c := Lib.hid (HO1.out.low gs (Nat.lt_succ_self _)); clear HO1; have HO1 := HO1c; clear HO1c
  have HO2c := Lib.hid (HO2.out.low gs (Nat.lt_succ_self _)); clear HO2; have HO2 := HO2c; clear HO2c
  generalize w5.setCell ⟨w.heap.size + 2, 2, none⟩ (.slice a2 cs1.length c2) = w6 at HT3 HO1 HO2 ⊢
  clear q0 q1 q2 q3 d0 d1 d2 d3 f2 gs HT2c
  obtain ⟨q0, q1, q2, q3⟩ := HT3.out.box.all
  have hv := HT3.out.var.all
  dsimp only [Mv.zero, List.length_nil] at hv
  obtain ⟨d0, d1, d2, d3⟩ := hv
  have f3 := HT3.out.var.f 3
  go_wp2_with fail
  refine (toSlots_any _ _ _ _ _ (HRD.out _ HT3.out.below).re HL.out.2.2).mono ?_
  rintro e w7 m3
  obtain ⟨a3, c3, rfl, o3, -, b3⟩ := m3.get
  have HT3c := Lib.hid (HT3.out.call b3)
  replace o3 := o3.more (base' := w.heap.size + 3) (HT3.out.var.lt)
  have HO1c := Lib.hid (HO1.out.below b3); clear HO1; have HO1 := HO1c; clear HO1c
  have HO2c := Lib.hid (HO2.out.below b3); clear HO2; have HO2 := HO2c; clear HO2c
  have HO3 := Lib.hid o3
  clear q0 q1 q2 q3 d0 d1 d2 d3 f3 b3 o3 m3 HT3
  obtain ⟨q0, q1, q2, q3⟩ := HT3c.out.box.all
  have hv := HT3c.out.var.all
  dsimp only [Mv.zero, List.length_nil] at hv
  obtain ⟨d0, d1, d2, d3⟩ := hv
  have f3 := HT3c.out.var.f 3
  go_upto_region 6 with fail
  have HT4 := Lib.hid (HT3c.out.put ((Below.refl _ _).setCell (by exact Nat.le_refl _) _) (HT3c.out.var.set3 v.e a3 c3))
  have gs := grown_set w7 (w.heap.size + 2) 3 (.slice a3 v.e.length c3)
  have HO1c := Lib.hid (HO1.out.low gs (Nat.lt_succ_self _)); clear HO1; have HO1 := HO1c; clear HO1c
  have HO2c := Lib.hid (HO2.out.low gs (Nat.lt_succ_self _)); clear HO2; have HO2 := HO2c; clear HO2c
  have HO3c := Lib.hid (HO3.out.low gs (Nat.lt_succ_self _)); clear HO3; have HO3 := HO3c; clear HO3c
  generalize w7.setCell ⟨w.heap.size + 2, 3, none⟩ (.slice a3 v.e.length c3) = w8 at HT4 HO1 HO2 HO3 ⊢
  clear q0 q1 q2 q3 d0 d1 d2 d3 f3 gs HT3c
  have hv := HT4.out.var.all
  dsimp only [Mv.zero] at hv
  obtain ⟨d0, d1, d2, d3⟩ := hv
  have hr := HT4.out.res.all
  dsimp only [Mv.zero, List.length_nil] at hr
  obtain ⟨q0, q1, q2, q3⟩ := hr
  have f0 := HT4.out.res.f 0; have f1 := HT4.out.res.f 1; have f2 := HT4.out.res.f 2; have f3 := HT4.out.res.f 3
  go_wp2_with fail
  clear d0 d1 d2 d3 q0 q1 q2 q3 f0 f1 f2 f3
  change bodyPost _ _ _ _ _ (setMv w8 (w.heap.size + 1) ⟨v.id, v.n, a1, c1, cs1, a2, c2, v.e, a3, c3⟩)
  have SF := HT4.out.res.put ⟨v.id, v.n, a1, c1, cs1, a2, c2, v.e, a3, c3⟩
  have BF := HT4.out.below.trans (below_setMv (B := w.heap.size) (w := w8) (Nat.le_succ _) ⟨v.id, v.n, a1, c1, cs1, a2, c2, v.e, a3, c3⟩)
  have gs := grown_setMv w8 (w.heap.size + 1) ⟨v.id, v.n, a1, c1, cs1, a2, c2, v.e, a3, c3⟩
  have o1 := HO1.out.low gs (by omega)
  have o2 := HO2.out.low gs (by omega)
  have o3 := HO3.out.low gs (by omega)
  generalize setMv w8 (w.heap.size + 1) ⟨v.id, v.n, a1, c1, cs1, a2, c2, v.e, a3, c3⟩ = wz at SF BF o1 o2 o3 ⊢
  obtain ⟨e0, e1, e2, e3⟩ := SF.all
  dsimp only at e0 e1 e2 e3
  refine bodyPost_ret (v := mvVal ⟨v.id, v.n, a1, c1, cs1, a2, c2, v.e, a3, c3⟩) (by simp [mvVal, results, Tryz.results58, go_sem, e0, e1, e2, e3]) rfl ⟨_, ?_, rfl, ⟨o1.more (by omega), o2.more (by omega), o3.more (by omega)⟩, BF⟩
  unfold Mv.me
  rw [HCS.out]
set_option maxRecDepth 100000 in
set_option maxHeartbeats 4000000 in
theorem eqMe_yes (a b : Mv) (w : World) (ha : RdMe w a) (hb : RdMe w b) (he : a.me = b.me) :
    Calls Tryz.prog 61 #[mvVal a, mvVal b] w fun e w' => e = .returned (.bool true) ∧ Below w.heap.size w w' := by
  have b1 : Below w.heap.size w (w.alloc (.cells #[.int .i64 a.id, .slice a.no a.n.length a.nc, .slice a.mo a.cs.length a.mc, .slice a.eo a.e.length a.ec] 28)) := (Below.refl _ _).alloc (Nat.le_refl _) _
  have b2 : Below (w.alloc (.cells #[.int .i64 a.id, .slice a.no a.n.length a.nc, .slice a.mo a.cs.length a.mc, .slice a.eo a.e.length a.ec] 28)).heap.size (w.alloc (.cells #[.int .i64 a.id, .slice a.no a.n.length a.nc, .slice a.mo a.cs.length a.mc, .slice a.eo a.e.length a.ec] 28)) ((w.alloc (.cells #[.int .i64 a.id, .slice a.no a.n.length a.nc, .slice a.mo a.cs.length a.mc, .slice a.eo a.e.length a.ec] 28)).alloc (.cells #[.int .i64 b.id, .slice b.no b.n.length b.nc, .slice b.mo b.cs.length b.mc, .slice b.eo b.e.length b.ec] 28)) := (Below.refl _ _).alloc (Nat.le_refl _) _
  have HB := Lib.hid (below_two b1 b2)
  have HA := Lib.hid (((MvAt.new w).below b2 (by simp)) : MvAt 28 ((w.alloc (.cells #[.int .i64 a.id, .slice a.no a.n.length a.nc, .slice a.mo a.cs.length a.mc, .slice a.eo a.e.length a.ec] 28)).alloc (.cells #[.int .i64 b.id, .slice b.no b.n.length b.nc, .slice b.mo b.cs.length b.mc, .slice b.eo b.e.length b.ec] 28)) w.heap.size a)
  have hbb : MvAt 28 ((w.alloc (.cells #[.int .i64 a.id, .slice a.no a.n.length a.nc, .slice a.mo a.cs.length a.mc, .slice a.eo a.e.length a.ec] 28)).alloc (.cells #[.int .i64 b.id, .slice b.no b.n.length b.nc, .slice b.mo b.cs.length b.mc, .slice b.eo b.e.length b.ec] 28)) (w.alloc (.cells #[.int .i64 a.id, .slice a.no a.n.length a.nc, .slice a.mo a.cs.length a.mc, .slice a.eo a.e.length a.ec] 28)).heap.size b := MvAt.new _
  rw [World.size_alloc] at hbb
  have HBB := Lib.hid hbb
  have e1 : a.id = b.id := congrArg Me.id he
  have e2 : a.n = b.n := congrArg Me.nodes he
  have e3 : mds a.cs = mds b.cs := congrArg Me.modes he
  have e4 : a.e = b.e := congrArg Me.slots he
  have e5 : b.cs.length = a.cs.length := by rw [← mds_len, ← mds_len, e3]
  have HC1 := Lib.hid (fun W (hW : Below w.heap.size w W) => (show Calls Tryz.prog 117 #[.slice a.no a.n.length a.nc, .slice b.no b.n.length b.nc] W fun e w' => e = .returned (.bool true) ∧ Below W.heap.size W w' from by
    have h1 := (ha.below hW).rn; have h2 := (hb.below hW).rn
    have l1 := ha.nle; have l2 := hb.nle; have l3 := ha.nl
    rw [← e2] at h2 l2 ⊢
    exact eqNodes_yes _ _ _ _ _ _ W h1 h2 (by omega) l1 l2))
  have HC2 := Lib.hid (fun W (hW : Below w.heap.size w W) => (show Calls Tryz.prog 118 #[.slice a.mo a.cs.length a.mc, .slice b.mo b.cs.length b.mc] W fun e w' => e = .returned (.bool true) ∧ Below W.heap.size W w' from by
    have h1 := (ha.below hW).rm; have h2 := (hb.below hW).rm
    have l3 := ha.ml
    rw [e5] at h2 ⊢
    exact eqModes_yes _ _ _ _ _ _ _ W h1 h2 e3 (by omega)))
  have HC3 := Lib.hid (fun W (hW : Below w.heap.size w W) => (show Calls Tryz.prog 119 #[.slice a.eo a.e.length a.ec, .slice b.eo b.e.length b.ec] W fun e w' => e = .returned (.bool true) ∧ Below W.heap.size W w' from by
    have h1 := (ha.below hW).re; have h2 := (hb.below hW).re
    have l1 := ha.ele; have l2 := hb.ele; have l3 := ha.el
    rw [← e4] at h2 l2 ⊢
    exact eqSlots_yes _ _ _ _ _ _ W h1 h2 (by omega) l1 l2))
  have hne : (a.id != b.id) = false := by rw [e1]; simp
  clear ha hb he e1 e2 e3 e4 e5 b1 b2 hbb
  unfold mvVal
  go_enter Tryz.func61, Tryz.ntmps61
  go_upto_region 1 with fail
  generalize (w.alloc (.cells #[.int .i64 a.id, .slice a.no a.n.length a.nc, .slice a.mo a.cs.length a.mc, .slice a.eo a.e.length a.ec] 28)).alloc (.cells #[.int .i64 b.id, .slice b.no b.n.length b.nc, .slice b.mo b.cs.length b.mc, .slice b.eo b.e.length b.ec] 28) = w1 at HA HB HBB ⊢
  obtain ⟨q0, q1, q2, q3⟩ := HA.out.all
  obtain ⟨r0, r1, r2, r3⟩ := HBB.out.all
  go_wp2_with fail
  refine (HC1.out _ HB.out).mono ?_
  rintro e w2 ⟨rfl, b2⟩
  have HB2 := Lib.hid (below_two HB.out b2)
  have HA2 := Lib.hid (HA.out.below b2 HA.out.lt)
  have HBB2 := Lib.hid (HBB.out.below b2 HBB.out.lt)
  clear q0 q1 q2 q3 r0 r1 r2 r3 b2 HA HB HBB
  obtain ⟨q0, q1, q2, q3⟩ := HA2.out.all
  obtain ⟨r0, r1, r2, r3⟩ := HBB2.out.all
  go_wp2_with fail
  refine (HC2.out _ HB2.out).mono ?_
  rintro e w3 ⟨rfl, b3⟩
  have HB3 := Lib.hid (below_two HB2.out b3)
  have HA3 := Lib.hid (HA2.out.below b3 HA2.out.lt)
  have HBB3 := Lib.hid (HBB2.out.below b3 HBB2.out.lt)
  clear q0 q1 q2 q3 r0 r1 r2 r3 b3 HA2 HB2 HBB2
  obtain ⟨q0, q1, q2, q3⟩ := HA3.out.all
  obtain ⟨r0, r1, r2, r3⟩ := HBB3.out.all
  go_wp2_with fail
  refine (HC3.out _ HB3.out).mono ?_
  rintro e w4 ⟨rfl, b4⟩
  clear q0 q1 q2 q3 r0 r1 r2 r3
  go_wp2_with fail
  go_ret
  exact ⟨rfl, below_two HB3.out b4⟩
end

section
open Go.RowKit
theorem MeRow.below {w w' : World} {v : Mv} (h : MeRow w v) (hb : Below w.heap.size w w') : MeRow w' v :=
  ⟨h.id, ⟨h.n.1, h.n.2.1, h.n.2.2.1.below hb, h.n.2.2.2⟩, ⟨h.m.1, h.m.2.1, h.m.2.2.below hb⟩, ⟨h.e.1, h.e.2.1, h.e.2.2.1.below hb, h.e.2.2.2⟩⟩
structure ArgSt (w W : World) (u : Mv) : Prop where
  box : MvAt 75 W w.heap.size u
  below : Below w.heap.size w W
theorem ArgSt.call {w W W' : World} {u : Mv} (h : ArgSt w W u) (b : Below W.heap.size W W') : ArgSt w W' u := ⟨h.box.below b h.box.lt, below_two h.below b⟩
theorem ArgSt.start (w : World) (u : Mv) : ArgSt w (w.alloc (.cells #[.int .i64 u.id, .slice u.no u.n.length u.nc, .slice u.mo u.cs.length u.mc, .slice u.eo u.e.length u.ec] 75)) u := ⟨MvAt.new w, (Below.refl _ _).alloc (Nat.le_refl _) _⟩
end

section
open Go.RowKit
def bxI (T K : Nat) (v : Mv) : It := ⟨.slice (some ⟨K, 0, none⟩) 1 1, T, 4, 1, [.int .i64 v.id, .slice v.no v.n.length v.nc, .slice v.mo v.cs.length v.mc, .slice v.eo v.e.length v.ec]⟩
theorem bx_of {w : World} {T K base : Nat} {v : Mv} (h : MvAt T w K v) (hb : base ≤ K) : w.ownsRow base T 4 (.slice (some ⟨K, 0, none⟩) 1 1) 1 [.int .i64 v.id, .slice v.no v.n.length v.nc, .slice v.mo v.cs.length v.mc, .slice v.eo v.e.length v.ec] :=
  ⟨rfl, .inr ⟨K, 1, #[.int .i64 v.id, .slice v.no v.n.length v.nc, .slice v.mo v.cs.length v.mc, .slice v.eo v.e.length v.ec], rfl, hb, h, Nat.le_refl _, by unfold maxLen; omega, rfl, rfl⟩⟩
theorem bx_at {w : World} {T K base : Nat} {v : Mv} (h : w.ownsRow base T 4 (.slice (some ⟨K, 0, none⟩) 1 1) 1 [.int .i64 v.id, .slice v.no v.n.length v.nc, .slice v.mo v.cs.length v.mc, .slice v.eo v.e.length v.ec]) : MvAt T w K v := by
  rcases h.2 with ⟨e, -⟩ | ⟨g, cap, cur, e, -, hg, -, -, hs, ht⟩
  · cases e
  · cases e
    have e4 : cur = #[.int .i64 v.id, .slice v.no v.n.length v.nc, .slice v.mo v.cs.length v.mc, .slice v.eo v.e.length v.ec] := by
      have : cur.toList = [.int .i64 v.id, .slice v.no v.n.length v.nc, .slice v.mo v.cs.length v.mc, .slice v.eo v.e.length v.ec] := by
        rw [← ht, List.take_of_length_le (by rw [Array.length_toList, hs]; exact Nat.le_refl _)]
      exact Array.toList_inj.1 this
    unfold MvAt
    rw [← e4]
    exact hg
theorem Hold.tail_ {w0 w : World} {p : It} {L : List It} (h : Hold w0 w ([p] ++ L)) : Hold w0 w L := ⟨h.below, fun q hq => h.own q (List.mem_cons_of_mem _ hq), (List.pairwise_cons.1 h.apart).2⟩
theorem Hold.makeB {w0 w : World} {L : List It} {T : Nat} {v : Mv} (h : Hold w0 w L) : Hold w0 (w.alloc (.cells #[.int .i64 v.id, .slice v.no v.n.length v.nc, .slice v.mo v.cs.length v.mc, .slice v.eo v.e.length v.ec] T)) ([bxI T w.heap.size v] ++ L) :=
  h.make (p := bxI T w.heap.size v) (bx_of (MvAt.new w) (Nat.le_refl _)) ((Below.refl _ _).alloc (Nat.le_refl _) _)
theorem Hold.getB {w0 w : World} {L1 L2 : List It} {T K : Nat} {v : Mv} (h : Hold w0 w (L1 ++ ([bxI T K v] ++ L2))) : MvAt T w K v := bx_at (h.own (bxI T K v) (by simp))
def mesOf (v : Mv) (n : List Nd) (cs : List Mc) (e : List Sl) : List It := [nds EN v.vn n] ++ (mis EM EI v.vm cs ++ [itsE ES v.ve e])
section
variable {w0 w : World} {L1 L2 : List It} {v : Mv} {n : List Nd} {cs : List Mc} {e : List Sl}
theorem Hold.meN (h : Hold w0 w (L1 ++ (mesOf v n cs e ++ L2))) : OwnN EN w w0.heap.size v.vn n := h.own (nds EN v.vn n) (by simp [mesOf])
theorem Hold.meM (h : Hold w0 w (L1 ++ (mesOf v n cs e ++ L2))) : OwnM EM EI w w0.heap.size v.vm cs :=
  Hold.getM (E := EM) (EI := EI) (v := v.vm) (cs := cs) (L1 := L1 ++ [nds EN v.vn n]) (L2 := [itsE ES v.ve e] ++ L2) (by simpa only [mesOf, List.append_assoc] using h)
theorem Hold.meE (h : Hold w0 w (L1 ++ (mesOf v n cs e ++ L2))) : OwnE ES w w0.heap.size v.ve e := h.own (itsE ES v.ve e) (by simp [mesOf])
theorem Hold.getMe_ (h : Hold w0 w (L1 ++ (mesOf v v.n v.cs v.e ++ L2))) : OwnMe w w0.heap.size v := ⟨h.meN, h.meM, h.meE⟩
theorem Hold.makeMe_ {w' : World} {L : List It} (h : Hold w0 w L) (o : OwnMe w' w.heap.size v) (b : Below w.heap.size w w') : Hold w0 w' (mesOf v v.n v.cs v.e ++ L) := h.makeMe o b
end
def markTot (v : Mv) : Nat := 1 + 4 * v.n.length + mTot (mds v.cs) + 8 * v.e.length
theorem mt_vs {v : Mv} (hs : Small v.me) : mTot (mds v.cs) ≤ 3145728 := hs.mt
theorem Hold.getB_ {w0 w : World} {L1 L2 : List It} {T K : Nat} {v : Mv} (h : Hold w0 w (([bxI T K v] ++ L1) ++ L2)) : MvAt T w K v := bx_at (h.own (bxI T K v) (by simp))
theorem Hold.tailB {w0 w : World} {L1 L2 : List It} {p : It} (h : Hold w0 w (([p] ++ L1) ++ L2)) : Hold w0 w (L1 ++ L2) := by rw [List.append_assoc] at h; exact h.tail_
theorem Hold.headB {w0 w : World} {L1 L2 : List It} {p : It} (h : Hold w0 w ([p] ++ (L1 ++ L2))) : Hold w0 w (([p] ++ L1) ++ L2) := by rwa [List.append_assoc]
section
variable {w0 w w' : World} {L1 L2 : List It} {v : Mv} {n n' : List Nd} {cs cs' : List Mc} {e e' : List Sl}
theorem mesN_list : L1 ++ (mesOf v n cs e ++ L2) = L1 ++ ([nds EN v.vn n] ++ (mis EM EI v.vm cs ++ [itsE ES v.ve e] ++ L2)) := by unfold mesOf; rw [List.append_assoc]
theorem mesM_list : L1 ++ (mesOf v n cs e ++ L2) = (L1 ++ [nds EN v.vn n]) ++ (mis EM EI v.vm cs ++ ([itsE ES v.ve e] ++ L2)) := by unfold mesOf; simp only [List.append_assoc]
theorem mesE_list : L1 ++ (mesOf v n cs e ++ L2) = (L1 ++ ([nds EN v.vn n] ++ mis EM EI v.vm cs)) ++ ([itsE ES v.ve e] ++ L2) := by unfold mesOf; simp only [List.append_assoc]
theorem Hold.markMeN (h : Hold w0 w (L1 ++ (mesOf v n cs e ++ L2))) (o : OwnN EN w' w0.heap.size v.vn n') (g : w.grownBy w' v.vn.ownBlock) : Hold w0 w' (L1 ++ (mesOf v n' cs e ++ L2)) := by
  rw [mesN_list] at h ⊢
  exact Hold.mark (p := nds EN v.vn n) (q := nds EN v.vn n') L1 h rfl o g
theorem Hold.markMeE (h : Hold w0 w (L1 ++ (mesOf v n cs e ++ L2))) (o : OwnE ES w' w0.heap.size v.ve e') (g : w.grownBy w' v.ve.ownBlock) : Hold w0 w' (L1 ++ (mesOf v n cs e' ++ L2)) := by
  rw [mesE_list] at h ⊢
  exact Hold.mark (p := itsE ES v.ve e) (q := itsE ES v.ve e') _ h rfl o g
theorem Hold.toM (h : Hold w0 w (L1 ++ (mesOf v n cs e ++ L2))) : Hold w0 w ((L1 ++ [nds EN v.vn n]) ++ (mis EM EI (.slice v.mo v.cs.length v.mc) cs ++ ([itsE ES v.ve e] ++ L2))) := by
  rw [mesM_list] at h
  exact h
theorem Hold.ofM (h : Hold w0 w ((L1 ++ [nds EN v.vn n]) ++ (mis EM EI (.slice v.mo v.cs.length v.mc) cs ++ ([itsE ES v.ve e] ++ L2)))) : Hold w0 w (L1 ++ (mesOf v n cs e ++ L2)) := by
  rw [mesM_list]
  exact h
end
end

section
open Go.RowKit
set_option maxRecDepth 100000 in
set_option maxHeartbeats 4000000 in
theorem markMe_any (v : Mv) (L1 L2 : List It) (w0 w : World) (hs : Small v.me) (h : Hold w0 w (L1 ++ (mesOf v v.n v.cs v.e ++ L2))) :
    Calls Tryz.prog 62 #[mvVal v, .int .i64 1] w fun e w' => e = .returned (.int .i64 (markTot v : Nat)) ∧ Hold w0 w' (L1 ++ (mesOf v (marksN 1 v.n.length) (markMs ((1 + 4 * v.n.length : Nat) : Int) v.cs) (marksS (((1 + 4 * v.n.length + mTot (mds v.cs) : Nat)) : Int) v.e.length) ++ L2)) := by
  have hml : v.cs.length ≤ 1048576 := by have e1 : v.me.modes.length = v.cs.length := mds_len v.cs; have := hs.ml; omega
  have hnl : v.n.length ≤ 1048576 := hs.nl
  have hel : v.e.length ≤ 1048576 := hs.el
  have hmt := mt_vs hs
  have H2 := Lib.hid (Hold.headB (h.makeB (T := 28) (v := v)))
  have e1 : (1 : Int) + 4 * (v.n.length : Int) = ((1 + 4 * v.n.length : Nat) : Int) := by omega
  have HZ : ((1 + 4 * v.n.length + mTot (mds v.cs) : Nat) : Int) + 8 * (v.e.length : Int) = ((markTot v : Nat) : Int) := by unfold markTot; omega
  obtain ⟨z1, hz1⟩ : ∃ z, z = 1 + 4 * v.n.length := ⟨_, rfl⟩
  rw [← hz1] at HZ e1 ⊢
  obtain ⟨z2, hz2⟩ : ∃ z, z = z1 + mTot (mds v.cs) := ⟨_, rfl⟩
  rw [← hz2] at HZ ⊢
  generalize markTot v = z3 at HZ ⊢
  have hz1' : z1 ≤ 16777216 := by omega
  have hz2' : (1 : Int) ≤ (z2 : Int) ∧ (z2 : Int) ≤ 16777216 := by omega
  have g1 : ¬ (z1 : Int) < 0 := by omega
  have g2 : ¬ (z2 : Int) < 0 := by omega
  have g3 : ¬ (z3 : Int) < 0 := by omega
  have HCN := Lib.hid (fun (W : World) (L : List It) (hW : Hold w0 W (([bxI 28 w.heap.size v] ++ L1) ++ (mesOf v v.n v.cs v.e ++ L2))) => (show Calls Tryz.prog 120 #[.slice v.no v.n.length v.nc, .int .i64 1] W fun e w' => e = .returned (.int .i64 (z1 : Int)) ∧ Hold w0 w' (([bxI 28 w.heap.size v] ++ L1) ++ (mesOf v (marksN 1 v.n.length) v.cs v.e ++ L2)) from by
    rw [← e1]
    refine (markNodes_any _ _ _ _ _ _ _ rfl hW.meN (by omega) (by omega) (by omega)).mono ?_
    rintro q w2 ⟨rfl, o2, g2⟩
    exact ⟨rfl, hW.markMeN o2 g2⟩))
  have HCM := Lib.hid (fun (W : World) (hW : Hold w0 W (([bxI 28 w.heap.size v] ++ L1) ++ (mesOf v (marksN 1 v.n.length) v.cs v.e ++ L2))) => (show Calls Tryz.prog 121 #[.slice v.mo v.cs.length v.mc, .int .i64 (z1 : Int)] W fun e w' => e = .returned (.int .i64 (z2 : Int)) ∧ Hold w0 w' (([bxI 28 w.heap.size v] ++ L1) ++ (mesOf v (marksN 1 v.n.length) (markMs z1 v.cs) v.e ++ L2)) from by
    refine (markModes_any _ _ _ v.cs _ _ z1 w0 _ rfl hW.toM (by omega) hml hz1').mono ?_
    rintro q w3 ⟨rfl, h4⟩
    rw [hz2]
    exact ⟨rfl, h4.ofM⟩))
  have HCE := Lib.hid (fun (W : World) (hW : Hold w0 W (([bxI 28 w.heap.size v] ++ L1) ++ (mesOf v (marksN 1 v.n.length) (markMs z1 v.cs) v.e ++ L2))) => (show Calls Tryz.prog 122 #[.slice v.eo v.e.length v.ec, .int .i64 (z2 : Int)] W fun e w' => e = .returned (.int .i64 (z3 : Int)) ∧ Hold w0 w' (([bxI 28 w.heap.size v] ++ L1) ++ (mesOf v (marksN 1 v.n.length) (markMs z1 v.cs) (marksS (z2 : Int) v.e.length) ++ L2)) from by
    rw [← HZ]
    refine (markSlots_any _ _ _ _ _ _ _ rfl hW.meE (by omega) hz2'.1 hz2'.2).mono ?_
    rintro q w4 ⟨rfl, o5, g5⟩
    exact ⟨rfl, hW.markMeE o5 g5⟩))
  clear h hs e1 HZ hz1 hz2 hmt hml hnl hel hz1' hz2'
  unfold mvVal
  go_enter Tryz.func62, Tryz.ntmps62
  go_upto_region 1 with fail
  generalize w.alloc (.cells #[.int .i64 v.id, .slice v.no v.n.length v.nc, .slice v.mo v.cs.length v.mc, .slice v.eo v.e.length v.ec] 28) = w1 at H2 ⊢
  generalize w.heap.size = K at *
  have HB := (Hold.getB_ H2.out)
  obtain ⟨q0, q1, q2, q3⟩ := HB.all
  go_wp2_with fail
  refine (HCN.out _ [] H2.out).mono ?_
  rintro q w2 ⟨rfl, h3⟩
  have H3 := Lib.hid h3
  clear q0 q1 q2 q3 HB H2 h3
  have HB := (Hold.getB_ H3.out)
  obtain ⟨q0, q1, q2, q3⟩ := HB.all
  go_wp2_with fail
  refine (HCM.out _ H3.out).mono ?_
  rintro q w3 ⟨rfl, h4⟩
  have H4 := Lib.hid h4
  clear q0 q1 q2 q3 HB H3 h4
  have HB := (Hold.getB_ H4.out)
  obtain ⟨q0, q1, q2, q3⟩ := HB.all
  go_wp2_with fail
  refine (HCE.out _ H4.out).mono ?_
  rintro q w4 ⟨rfl, h5⟩
  have H5 := Lib.hid (Hold.tailB h5)
  clear q0 q1 q2 q3 HB H4 h5
  go_wp2_with fail
  go_ret
  exact ⟨rfl, H5.out⟩
end

section
open Go.RowKit
section
variable {w0 w w' : World} {L L1 L2 : List It} {v : Mv} {n : List Nd} {cs : List Mc} {e : List Sl}
theorem Hold.tailMe (h : Hold w0 w (mesOf v n cs e ++ L)) : Hold w0 w L := ⟨h.below, fun q hq => h.own q (List.mem_append_right _ hq), (List.pairwise_append.1 h.apart).2.1⟩
theorem Hold.drop {X : List It} (h : Hold w0 w (L1 ++ (X ++ L2))) : Hold w0 w (L1 ++ L2) := by
  refine ⟨h.below, fun q hq => h.own q ?_, ?_⟩
  · rcases List.mem_append.1 hq with h | h
    · exact List.mem_append_left _ h
    · exact List.mem_append_right _ (List.mem_append_right _ h)
  · have ha := List.pairwise_append.1 h.apart
    have hb := List.pairwise_append.1 ha.2.1
    exact List.pairwise_append.2 ⟨ha.1, hb.2.1, fun a h1 b h2 => ha.2.2 a h1 b (List.mem_append_right _ h2)⟩
end
abbrev TM : Nat := 28
section
variable {w0 W W' : World} {K4 K5 K7 : Nat} {v4 v5 v7 : Mv}
end
end
end Go.Proofs.YthihjhidjnadaaaGreat
