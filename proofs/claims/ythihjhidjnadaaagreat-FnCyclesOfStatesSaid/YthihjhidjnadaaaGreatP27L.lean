/-
  Contracts of the program's, the model's and the laws' functions, and plain mathematics, on which a proof of this claim stands (part L).
-/

import Derived.Test.YthihjhidjnadaaaGreatP27A
import Derived.Test.YthihjhidjnadaaaGreatP27M
import Derived.Test.YthihjhidjnadaaaGreatP27N
import Derived.Test.YthihjhidjnadaaaGreatP27S
namespace Go.Proofs.YthihjhidjnadaaaGreat
section
open Go.RowKit
structure Small (m : Me) : Prop where
  nl : m.nodes.length ≤ 1048576
  ns : smallN m.nodes
  ml : m.modes.length ≤ 1048576
  mt : mTot m.modes ≤ 3145728
  ms : ∀ x ∈ m.modes, x.next.length ≤ 1048576
  el : m.slots.length ≤ 1048576
theorem Small.rd {w : World} {v : Mv} (hs : Small v.me) (h : MeRow w v) : RdMe w v := by
  have e1 : v.me.modes.length = v.cs.length := mds_len v.cs
  have h1 := h.n; have h2 := h.m; have h3 := h.e
  unfold NdRow maxLen at h1; unfold MdRow maxLen at h2; unfold SlRow maxLen at h3
  exact ⟨h1.2.2.1, h2.2.2, h3.2.2.1, h1.1, by omega, h2.1, by omega, h3.1, by omega, hs.nl, by have := hs.ml; omega, hs.el, hs.ns, fun c hc => hs.ms c.md (List.mem_map_of_mem hc)⟩
end

section
open Go.RowKit
abbrev EN : Nat := 130
abbrev EM : Nat := 99
abbrev EI : Nat := 2
abbrev ES : Nat := 65
def Mv.vn (v : Mv) : Value := .slice v.no v.n.length v.nc
def Mv.vm (v : Mv) : Value := .slice v.mo v.cs.length v.mc
def Mv.ve (v : Mv) : Value := .slice v.eo v.e.length v.ec
structure OwnMe (w : World) (base : Nat) (v : Mv) : Prop where
  n : OwnN EN w base v.vn v.n
  m : OwnM EM EI w base v.vm v.cs
  e : OwnE ES w base v.ve v.e
def GivesMe (w : World) (m : Me) (e : Ending) (w' : World) : Prop := ∃ v : Mv, v.me = m ∧ e = .returned (mvVal v) ∧ OwnMe w' w.heap.size v ∧ Below w.heap.size w w'
section
variable {w w' w0 : World} {base : Nat} {v : Mv}
theorem OwnMe.below (h : OwnMe w base v) (hb : Below w.heap.size w w') : OwnMe w' base v := ⟨h.n.below hb, h.m.below hb, h.e.below hb⟩
theorem OwnMe.more (h : OwnMe w base v) {base' : Nat} (hb : base' ≤ base) : OwnMe w base' v := ⟨h.n.more hb, h.m.more hb, h.e.more hb⟩
theorem OwnMe.rd (h : OwnMe w base v) (hs : Small v.me) : RdMe w v := by
  have e1 : v.me.modes.length = v.cs.length := mds_len v.cs
  have h1 : RdN w v.no v.n.length v.n := by
    obtain ⟨ao, cap, e, -, r⟩ := h.n.get
    cases e; exact r
  have h2 : RdM w v.mo v.cs.length v.cs := by
    obtain ⟨ao, cap, e, -, r⟩ := h.m.get
    cases e; exact r
  have h3 : RdE w v.eo v.e.length v.e := by
    obtain ⟨ao, cap, e, -, r⟩ := h.e.get
    cases e; exact r
  exact ⟨h1, h2, h3, h.n.cap.1, h.n.cap.2, h.m.cap.1, h.m.cap.2, h.e.cap.1, h.e.cap.2, hs.nl, by have := hs.ml; omega, hs.el, hs.ns, fun c hc => hs.ms c.md (List.mem_map_of_mem hc)⟩
end
section
variable {w W W' : World} {T b : Nat} {v : Mv}
theorem MvAt.set0 (h : MvAt T w b v) (y : Int) : MvAt T (w.setCell ⟨b, 0, none⟩ (.int .i64 y)) b ⟨y, v.n, v.no, v.nc, v.cs, v.mo, v.mc, v.e, v.eo, v.ec⟩ := by
  have := heap_setCell_same w b 0 _ _ (.int .i64 y) h
  simpa [MvAt] using this
theorem MvAt.set1 (h : MvAt T w b v) (n : List Nd) (no : Option Addr) (nc : Nat) : MvAt T (w.setCell ⟨b, 1, none⟩ (.slice no n.length nc)) b ⟨v.id, n, no, nc, v.cs, v.mo, v.mc, v.e, v.eo, v.ec⟩ := by
  have := heap_setCell_same w b 1 _ _ (.slice no n.length nc) h
  simpa [MvAt] using this
theorem MvAt.set2 (h : MvAt T w b v) (cs : List Mc) (mo : Option Addr) (mc : Nat) : MvAt T (w.setCell ⟨b, 2, none⟩ (.slice mo cs.length mc)) b ⟨v.id, v.n, v.no, v.nc, cs, mo, mc, v.e, v.eo, v.ec⟩ := by
  have := heap_setCell_same w b 2 _ _ (.slice mo cs.length mc) h
  simpa [MvAt] using this
theorem MvAt.set3 (h : MvAt T w b v) (e : List Sl) (eo : Option Addr) (ec : Nat) : MvAt T (w.setCell ⟨b, 3, none⟩ (.slice eo e.length ec)) b ⟨v.id, v.n, v.no, v.nc, v.cs, v.mo, v.mc, e, eo, ec⟩ := by
  have := heap_setCell_same w b 3 _ _ (.slice eo e.length ec) h
  simpa [MvAt] using this
def setMv (w : World) (b : Nat) (v : Mv) : World := (((w.setCell ⟨b, 0, none⟩ (.int .i64 v.id)).setCell ⟨b, 1, none⟩ (.slice v.no v.n.length v.nc)).setCell ⟨b, 2, none⟩ (.slice v.mo v.cs.length v.mc)).setCell ⟨b, 3, none⟩ (.slice v.eo v.e.length v.ec)
theorem MvAt.put {y : Mv} (h : MvAt T w b y) (v : Mv) : MvAt T (setMv w b v) b v := (((h.set0 v.id).set1 v.n v.no v.nc).set2 v.cs v.mo v.mc).set3 v.e v.eo v.ec
theorem below_setMv {B : Nat} (hb : B ≤ b) (v : Mv) : Below B w (setMv w b v) := ((((Below.refl _ _).setCell hb _).setCell hb _).setCell hb _).setCell hb _
end
theorem OwnN.low {E : Nat} {w w' : World} {base g : Nat} {v : Value} {t : List Nd} (h : OwnN E w base v t) (hg : w.grownBy w' (some g)) (hb : g < base) : OwnN E w' base v t := by
  refine h.only hg ?_
  cases hk : v.ownBlock with
  | none => exact .inl rfl
  | some k => exact .inr (fun e => by cases e; have := (h.block _ hk).1; omega)
theorem OwnM.low {E EI : Nat} {w w' : World} {base g : Nat} {v : Value} {cs : List Mc} (h : OwnM E EI w base v cs) (hg : w.grownBy w' (some g)) (hb : g < base) : OwnM E EI w' base v cs := h.old hg hb
theorem OwnE.low {E : Nat} {w w' : World} {base g : Nat} {v : Value} {t : List Sl} (h : OwnE E w base v t) (hg : w.grownBy w' (some g)) (hb : g < base) : OwnE E w' base v t := h.old hg hb
theorem grown_setMv (w : World) (g : Nat) (v : Mv) : w.grownBy (setMv w g v) (some g) := by
  unfold setMv
  exact grown_trans (grown_trans (grown_trans (grown_set _ _ _ _) (grown_set _ _ _ _)) (grown_set _ _ _ _)) (grown_set _ _ _ _)
end

section
open Go.RowKit
theorem MeRow.below {w w' : World} {v : Mv} (h : MeRow w v) (hb : Below w.heap.size w w') : MeRow w' v :=
  ⟨h.id, ⟨h.n.1, h.n.2.1, h.n.2.2.1.below hb, h.n.2.2.2⟩, ⟨h.m.1, h.m.2.1, h.m.2.2.below hb⟩, ⟨h.e.1, h.e.2.1, h.e.2.2.1.below hb, h.e.2.2.2⟩⟩
end

section
open Go.RowKit
theorem bx_of {w : World} {T K base : Nat} {v : Mv} (h : MvAt T w K v) (hb : base ≤ K) : w.ownsRow base T 4 (.slice (some ⟨K, 0, none⟩) 1 1) 1 [.int .i64 v.id, .slice v.no v.n.length v.nc, .slice v.mo v.cs.length v.mc, .slice v.eo v.e.length v.ec] :=
  ⟨rfl, .inr ⟨K, 1, #[.int .i64 v.id, .slice v.no v.n.length v.nc, .slice v.mo v.cs.length v.mc, .slice v.eo v.e.length v.ec], rfl, hb, h, Nat.le_refl _, by unfold maxLen; omega, rfl, rfl⟩⟩
theorem bx_at {w : World} {T K base : Nat} {v : Mv} (h : w.ownsRow base T 4 (.slice (some ⟨K, 0, none⟩) 1 1) 1 [.int .i64 v.id, .slice v.no v.n.length v.nc, .slice v.mo v.cs.length v.mc, .slice v.eo v.e.length v.ec]) : MvAt T w K v := by
  rcases h.2 with ⟨e, -⟩ | ⟨g, cap, cur, e, -, hg, -, -, hs, ht⟩
  · cases e
  · cases e
    have e4 : cur = #[.int .i64 v.id, .slice v.no v.n.length v.nc, .slice v.mo v.cs.length v.mc, .slice v.eo v.e.length v.ec] := by
      have : cur.toList = [.int .i64 v.id, .slice v.no v.n.length v.nc, .slice v.mo v.cs.length v.mc, .slice v.eo v.e.length v.ec] := by
        rw [← ht, List.take_of_length_le (by rw [Array.length_toList, hs]; exact Nat.le_refl _)]
      exact Array.toList_inj.1 this
    unfold MvAt
    rw [← e4]
    exact hg
section
variable {w0 w : World} {L1 L2 : List It} {v : Mv} {n : List Nd} {cs : List Mc} {e : List Sl}
end
section
variable {w0 w w' : World} {L1 L2 : List It} {v : Mv} {n n' : List Nd} {cs cs' : List Mc} {e e' : List Sl}
end
end

section
open Go.RowKit
def smallMe : Me := ⟨77, [⟨0, ⟨#[97]⟩, 100, false⟩, ⟨1, ⟨#[98]⟩, 50, false⟩], [⟨2, 2, [1]⟩, ⟨1, 2, [0]⟩],
  [⟨0, 0, 0, ⟨0, 3, 0, 200, false⟩⟩, ⟨0, 0, 1, ⟨1, 1, 0, 200, false⟩⟩, ⟨0, 1, 0, ⟨0, 0, 4, 200, true⟩⟩, ⟨0, 1, 1, ⟨1, 0, 2, 200, false⟩⟩, ⟨1, 0, 0, ⟨1, 2, 3, 300, true⟩⟩, ⟨1, 0, 1, ⟨0, 0, 0, 150, false⟩⟩]⟩
def smallMv (B : Nat) : Mv := ⟨77, smallMe.nodes, some ⟨B + 1, 0, none⟩, 2, [⟨⟨2, 2, [1]⟩, some ⟨B + 1 + 1, 0, none⟩, 1⟩, ⟨⟨1, 2, [0]⟩, some ⟨B + 1 + 1 + 1, 0, none⟩, 1⟩], some ⟨B + 1 + 1 + 1 + 1, 0, none⟩, 2, smallMe.slots, some ⟨B + 1 + 1 + 1 + 1 + 1, 0, none⟩, 6⟩
theorem own_new {E base s n g : Nat} {w : World} (cs : Array Value) (hg : w.heap.size = g) (hb : base ≤ g) (h1 : cs.size = n * s) (h2 : n ≤ 1000) : (w.alloc (.cells cs E)).ownsRow base E s (.slice (some ⟨g, 0, none⟩) n n) n cs.toList := by
  subst hg
  exact ⟨by rw [Array.length_toList]; exact h1, .inr ⟨w.heap.size, n, cs, rfl, hb, heap_alloc_new w _, Nat.le_refl _, by unfold maxLen; omega, h1, by rw [List.take_of_length_le (by rw [Array.length_toList]; omega)]⟩⟩
def slArr : Array Value := #[.int .i64 0, .int .i64 0, .int .i64 0, .int .i64 0, .int .i64 3, .int .i64 0, .int .i64 200, .bool false, .int .i64 0, .int .i64 0, .int .i64 1, .int .i64 1, .int .i64 1, .int .i64 0, .int .i64 200, .bool false, .int .i64 0, .int .i64 1, .int .i64 0, .int .i64 0, .int .i64 0, .int .i64 4, .int .i64 200, .bool true, .int .i64 0, .int .i64 1, .int .i64 1, .int .i64 1, .int .i64 0, .int .i64 2, .int .i64 200, .bool false, .int .i64 1, .int .i64 0, .int .i64 0, .int .i64 1, .int .i64 2, .int .i64 3, .int .i64 300, .bool true, .int .i64 1, .int .i64 0, .int .i64 1, .int .i64 0, .int .i64 0, .int .i64 0, .int .i64 150, .bool false]
theorem below_new {w : World} {o : Obj} : Below w.heap.size w (w.alloc o) := (Below.refl _ _).alloc (Nat.le_refl _) _
theorem size_new {w : World} {o : Obj} {n : Nat} (h : w.heap.size = n) : (w.alloc o).heap.size = n + 1 := by rw [← h, World.size_alloc]
set_option maxRecDepth 100000 in
theorem small_world (w : World) : MvAt 28 ((((((w.alloc (.cells #[.int .i64 77, .slice (some ⟨w.heap.size + 1, 0, none⟩) 2 2, .slice (some ⟨w.heap.size + 1 + 1 + 1 + 1, 0, none⟩) 2 2, .slice (some ⟨w.heap.size + 1 + 1 + 1 + 1 + 1, 0, none⟩) 6 6] 28)).alloc (.cells #[.int .i64 0, .string ⟨#[97]⟩, .int .i64 100, .bool false, .int .i64 1, .string ⟨#[98]⟩, .int .i64 50, .bool false] EN)).alloc (.cells #[.int .i64 1] EI)).alloc (.cells #[.int .i64 0] EI)).alloc (.cells #[.int .i64 2, .int .i64 2, .slice (some ⟨w.heap.size + 1 + 1, 0, none⟩) 1 1, .int .i64 1, .int .i64 2, .slice (some ⟨w.heap.size + 1 + 1 + 1, 0, none⟩) 1 1] EM)).alloc (.cells #[.int .i64 0, .int .i64 0, .int .i64 0, .int .i64 0, .int .i64 3, .int .i64 0, .int .i64 200, .bool false, .int .i64 0, .int .i64 0, .int .i64 1, .int .i64 1, .int .i64 1, .int .i64 0, .int .i64 200, .bool false, .int .i64 0, .int .i64 1, .int .i64 0, .int .i64 0, .int .i64 0, .int .i64 4, .int .i64 200, .bool true, .int .i64 0, .int .i64 1, .int .i64 1, .int .i64 1, .int .i64 0, .int .i64 2, .int .i64 200, .bool false, .int .i64 1, .int .i64 0, .int .i64 0, .int .i64 1, .int .i64 2, .int .i64 3, .int .i64 300, .bool true, .int .i64 1, .int .i64 0, .int .i64 1, .int .i64 0, .int .i64 0, .int .i64 0, .int .i64 150, .bool false] ES)) w.heap.size (smallMv w.heap.size) ∧ OwnMe ((((((w.alloc (.cells #[.int .i64 77, .slice (some ⟨w.heap.size + 1, 0, none⟩) 2 2, .slice (some ⟨w.heap.size + 1 + 1 + 1 + 1, 0, none⟩) 2 2, .slice (some ⟨w.heap.size + 1 + 1 + 1 + 1 + 1, 0, none⟩) 6 6] 28)).alloc (.cells #[.int .i64 0, .string ⟨#[97]⟩, .int .i64 100, .bool false, .int .i64 1, .string ⟨#[98]⟩, .int .i64 50, .bool false] EN)).alloc (.cells #[.int .i64 1] EI)).alloc (.cells #[.int .i64 0] EI)).alloc (.cells #[.int .i64 2, .int .i64 2, .slice (some ⟨w.heap.size + 1 + 1, 0, none⟩) 1 1, .int .i64 1, .int .i64 2, .slice (some ⟨w.heap.size + 1 + 1 + 1, 0, none⟩) 1 1] EM)).alloc (.cells #[.int .i64 0, .int .i64 0, .int .i64 0, .int .i64 0, .int .i64 3, .int .i64 0, .int .i64 200, .bool false, .int .i64 0, .int .i64 0, .int .i64 1, .int .i64 1, .int .i64 1, .int .i64 0, .int .i64 200, .bool false, .int .i64 0, .int .i64 1, .int .i64 0, .int .i64 0, .int .i64 0, .int .i64 4, .int .i64 200, .bool true, .int .i64 0, .int .i64 1, .int .i64 1, .int .i64 1, .int .i64 0, .int .i64 2, .int .i64 200, .bool false, .int .i64 1, .int .i64 0, .int .i64 0, .int .i64 1, .int .i64 2, .int .i64 3, .int .i64 300, .bool true, .int .i64 1, .int .i64 0, .int .i64 1, .int .i64 0, .int .i64 0, .int .i64 0, .int .i64 150, .bool false] ES)) w.heap.size (smallMv w.heap.size) ∧ Below w.heap.size w ((((((w.alloc (.cells #[.int .i64 77, .slice (some ⟨w.heap.size + 1, 0, none⟩) 2 2, .slice (some ⟨w.heap.size + 1 + 1 + 1 + 1, 0, none⟩) 2 2, .slice (some ⟨w.heap.size + 1 + 1 + 1 + 1 + 1, 0, none⟩) 6 6] 28)).alloc (.cells #[.int .i64 0, .string ⟨#[97]⟩, .int .i64 100, .bool false, .int .i64 1, .string ⟨#[98]⟩, .int .i64 50, .bool false] EN)).alloc (.cells #[.int .i64 1] EI)).alloc (.cells #[.int .i64 0] EI)).alloc (.cells #[.int .i64 2, .int .i64 2, .slice (some ⟨w.heap.size + 1 + 1, 0, none⟩) 1 1, .int .i64 1, .int .i64 2, .slice (some ⟨w.heap.size + 1 + 1 + 1, 0, none⟩) 1 1] EM)).alloc (.cells #[.int .i64 0, .int .i64 0, .int .i64 0, .int .i64 0, .int .i64 3, .int .i64 0, .int .i64 200, .bool false, .int .i64 0, .int .i64 0, .int .i64 1, .int .i64 1, .int .i64 1, .int .i64 0, .int .i64 200, .bool false, .int .i64 0, .int .i64 1, .int .i64 0, .int .i64 0, .int .i64 0, .int .i64 4, .int .i64 200, .bool true, .int .i64 0, .int .i64 1, .int .i64 1, .int .i64 1, .int .i64 0, .int .i64 2, .int .i64 200, .bool false, .int .i64 1, .int .i64 0, .int .i64 0, .int .i64 1, .int .i64 2, .int .i64 3, .int .i64 300, .bool true, .int .i64 1, .int .i64 0, .int .i64 1, .int .i64 0, .int .i64 0, .int .i64 0, .int .i64 150, .bool false] ES)) := by
  have m1 : MvAt 28 (w.alloc (.cells #[.int .i64 77, .slice (some ⟨w.heap.size + 1, 0, none⟩) 2 2, .slice (some ⟨w.heap.size + 1 + 1 + 1 + 1, 0, none⟩) 2 2, .slice (some ⟨w.heap.size + 1 + 1 + 1 + 1 + 1, 0, none⟩) 6 6] 28)) w.heap.size (smallMv w.heap.size) := MvAt.new (v := smallMv w.heap.size) w
  have b1 : Below w.heap.size w (w.alloc (.cells #[.int .i64 77, .slice (some ⟨w.heap.size + 1, 0, none⟩) 2 2, .slice (some ⟨w.heap.size + 1 + 1 + 1 + 1, 0, none⟩) 2 2, .slice (some ⟨w.heap.size + 1 + 1 + 1 + 1 + 1, 0, none⟩) 6 6] 28)) := below_new
  have s1 : (w.alloc (.cells #[.int .i64 77, .slice (some ⟨w.heap.size + 1, 0, none⟩) 2 2, .slice (some ⟨w.heap.size + 1 + 1 + 1 + 1, 0, none⟩) 2 2, .slice (some ⟨w.heap.size + 1 + 1 + 1 + 1 + 1, 0, none⟩) 6 6] 28)).heap.size = w.heap.size + 1 := size_new rfl
  generalize w.alloc (.cells #[.int .i64 77, .slice (some ⟨w.heap.size + 1, 0, none⟩) 2 2, .slice (some ⟨w.heap.size + 1 + 1 + 1 + 1, 0, none⟩) 2 2, .slice (some ⟨w.heap.size + 1 + 1 + 1 + 1 + 1, 0, none⟩) 6 6] 28) = w1 at m1 b1 s1 ⊢
  have o2 : OwnN EN (w1.alloc (.cells #[.int .i64 0, .string ⟨#[97]⟩, .int .i64 100, .bool false, .int .i64 1, .string ⟨#[98]⟩, .int .i64 50, .bool false] EN)) w.heap.size (.slice (some ⟨w.heap.size + 1, 0, none⟩) 2 2) smallMe.nodes := own_new #[.int .i64 0, .string ⟨#[97]⟩, .int .i64 100, .bool false, .int .i64 1, .string ⟨#[98]⟩, .int .i64 50, .bool false] s1 (by omega) rfl (by omega)
  have s2 := size_new (o := (.cells #[.int .i64 0, .string ⟨#[97]⟩, .int .i64 100, .bool false, .int .i64 1, .string ⟨#[98]⟩, .int .i64 50, .bool false] EN)) s1
  have m2 := m1.below (below_new (o := (.cells #[.int .i64 0, .string ⟨#[97]⟩, .int .i64 100, .bool false, .int .i64 1, .string ⟨#[98]⟩, .int .i64 50, .bool false] EN))) m1.lt
  have b2 := below_two b1 (below_new (o := (.cells #[.int .i64 0, .string ⟨#[97]⟩, .int .i64 100, .bool false, .int .i64 1, .string ⟨#[98]⟩, .int .i64 50, .bool false] EN)))
  generalize w1.alloc (.cells #[.int .i64 0, .string ⟨#[97]⟩, .int .i64 100, .bool false, .int .i64 1, .string ⟨#[98]⟩, .int .i64 50, .bool false] EN) = w2 at o2 s2 m2 b2 ⊢
  have o3 : Own EI (w2.alloc (.cells #[.int .i64 1] EI)) w.heap.size (.slice (some ⟨w.heap.size + 1 + 1, 0, none⟩) 1 1) [1] := own_new #[.int .i64 1] s2 (by omega) rfl (by omega)
  have s3 := size_new (o := (.cells #[.int .i64 1] EI)) s2
  have m3 := m2.below (below_new (o := (.cells #[.int .i64 1] EI))) m2.lt
  have b3 := below_two b2 (below_new (o := (.cells #[.int .i64 1] EI)))
  replace o2 := o2.below (below_new (o := (.cells #[.int .i64 1] EI)))
  generalize w2.alloc (.cells #[.int .i64 1] EI) = w3 at o2 o3 s3 m3 b3 ⊢
  have o4 : Own EI (w3.alloc (.cells #[.int .i64 0] EI)) w.heap.size (.slice (some ⟨w.heap.size + 1 + 1 + 1, 0, none⟩) 1 1) [0] := own_new #[.int .i64 0] s3 (by omega) rfl (by omega)
  have s4 := size_new (o := (.cells #[.int .i64 0] EI)) s3
  have m4 := m3.below (below_new (o := (.cells #[.int .i64 0] EI))) m3.lt
  have b4 := below_two b3 (below_new (o := (.cells #[.int .i64 0] EI)))
  replace o2 := o2.below (below_new (o := (.cells #[.int .i64 0] EI)))
  replace o3 := o3.below (below_new (o := (.cells #[.int .i64 0] EI)))
  generalize w3.alloc (.cells #[.int .i64 0] EI) = w4 at o2 o3 o4 s4 m4 b4 ⊢
  have o5 : w4.alloc (.cells #[.int .i64 2, .int .i64 2, .slice (some ⟨w.heap.size + 1 + 1, 0, none⟩) 1 1, .int .i64 1, .int .i64 2, .slice (some ⟨w.heap.size + 1 + 1 + 1, 0, none⟩) 1 1] EM) |>.ownsRow w.heap.size EM 3 (.slice (some ⟨w.heap.size + 1 + 1 + 1 + 1, 0, none⟩) 2 2) 2 ((smallMv w.heap.size).cs.flatMap mcCells) := own_new #[.int .i64 2, .int .i64 2, .slice (some ⟨w.heap.size + 1 + 1, 0, none⟩) 1 1, .int .i64 1, .int .i64 2, .slice (some ⟨w.heap.size + 1 + 1 + 1, 0, none⟩) 1 1] s4 (by omega) rfl (by omega)
  have s5 := size_new (o := (.cells #[.int .i64 2, .int .i64 2, .slice (some ⟨w.heap.size + 1 + 1, 0, none⟩) 1 1, .int .i64 1, .int .i64 2, .slice (some ⟨w.heap.size + 1 + 1 + 1, 0, none⟩) 1 1] EM)) s4
  have m5 := m4.below (below_new (o := (.cells #[.int .i64 2, .int .i64 2, .slice (some ⟨w.heap.size + 1 + 1, 0, none⟩) 1 1, .int .i64 1, .int .i64 2, .slice (some ⟨w.heap.size + 1 + 1 + 1, 0, none⟩) 1 1] EM))) m4.lt
  have b5 := below_two b4 (below_new (o := (.cells #[.int .i64 2, .int .i64 2, .slice (some ⟨w.heap.size + 1 + 1, 0, none⟩) 1 1, .int .i64 1, .int .i64 2, .slice (some ⟨w.heap.size + 1 + 1 + 1, 0, none⟩) 1 1] EM)))
  replace o2 := o2.below (below_new (o := (.cells #[.int .i64 2, .int .i64 2, .slice (some ⟨w.heap.size + 1 + 1, 0, none⟩) 1 1, .int .i64 1, .int .i64 2, .slice (some ⟨w.heap.size + 1 + 1 + 1, 0, none⟩) 1 1] EM)))
  replace o3 := o3.below (below_new (o := (.cells #[.int .i64 2, .int .i64 2, .slice (some ⟨w.heap.size + 1 + 1, 0, none⟩) 1 1, .int .i64 1, .int .i64 2, .slice (some ⟨w.heap.size + 1 + 1 + 1, 0, none⟩) 1 1] EM)))
  replace o4 := o4.below (below_new (o := (.cells #[.int .i64 2, .int .i64 2, .slice (some ⟨w.heap.size + 1 + 1, 0, none⟩) 1 1, .int .i64 1, .int .i64 2, .slice (some ⟨w.heap.size + 1 + 1 + 1, 0, none⟩) 1 1] EM)))
  have nx : ∀ c ∈ (smallMv w.heap.size).cs, Own EI (w4.alloc (.cells #[.int .i64 2, .int .i64 2, .slice (some ⟨w.heap.size + 1 + 1, 0, none⟩) 1 1, .int .i64 1, .int .i64 2, .slice (some ⟨w.heap.size + 1 + 1 + 1, 0, none⟩) 1 1] EM)) w.heap.size c.v c.md.next := by
    intro c hc
    rcases List.mem_cons.1 hc with rfl | hc
    · exact o3
    · rcases List.mem_cons.1 hc with rfl | hc
      · exact o4
      · cases hc
  have ap : (smallMv w.heap.size).cs.Pairwise fun p q => ∀ k, p.v.ownBlock = some k → q.v.ownBlock ≠ some k := by
    refine List.pairwise_cons.2 ⟨?_, List.pairwise_cons.2 ⟨fun _ h => (by cases h), List.Pairwise.nil⟩⟩
    intro q hq k h1 h2
    rcases List.mem_cons.1 hq with rfl | hq
    · have e1 : some (w.heap.size + 1 + 1) = some k := h1
      have e2 : some (w.heap.size + 1 + 1 + 1) = some k := h2
      rw [← e1] at e2
      injection e2 with e2
      omega
    · cases hq
  have om : OwnM EM EI (w4.alloc (.cells #[.int .i64 2, .int .i64 2, .slice (some ⟨w.heap.size + 1 + 1, 0, none⟩) 1 1, .int .i64 1, .int .i64 2, .slice (some ⟨w.heap.size + 1 + 1 + 1, 0, none⟩) 1 1] EM)) w.heap.size (.slice (some ⟨w.heap.size + 1 + 1 + 1 + 1, 0, none⟩) 2 2) (smallMv w.heap.size).cs := ⟨o5, nx, ap⟩
  generalize w4.alloc (.cells #[.int .i64 2, .int .i64 2, .slice (some ⟨w.heap.size + 1 + 1, 0, none⟩) 1 1, .int .i64 1, .int .i64 2, .slice (some ⟨w.heap.size + 1 + 1 + 1, 0, none⟩) 1 1] EM) = w5 at o2 om s5 m5 b5 ⊢
  have o6 : OwnE ES (w5.alloc (.cells #[.int .i64 0, .int .i64 0, .int .i64 0, .int .i64 0, .int .i64 3, .int .i64 0, .int .i64 200, .bool false, .int .i64 0, .int .i64 0, .int .i64 1, .int .i64 1, .int .i64 1, .int .i64 0, .int .i64 200, .bool false, .int .i64 0, .int .i64 1, .int .i64 0, .int .i64 0, .int .i64 0, .int .i64 4, .int .i64 200, .bool true, .int .i64 0, .int .i64 1, .int .i64 1, .int .i64 1, .int .i64 0, .int .i64 2, .int .i64 200, .bool false, .int .i64 1, .int .i64 0, .int .i64 0, .int .i64 1, .int .i64 2, .int .i64 3, .int .i64 300, .bool true, .int .i64 1, .int .i64 0, .int .i64 1, .int .i64 0, .int .i64 0, .int .i64 0, .int .i64 150, .bool false] ES)) w.heap.size (.slice (some ⟨w.heap.size + 1 + 1 + 1 + 1 + 1, 0, none⟩) 6 6) smallMe.slots := own_new slArr s5 (by omega) rfl (by omega)
  exact ⟨m5.below (below_new (o := (.cells #[.int .i64 0, .int .i64 0, .int .i64 0, .int .i64 0, .int .i64 3, .int .i64 0, .int .i64 200, .bool false, .int .i64 0, .int .i64 0, .int .i64 1, .int .i64 1, .int .i64 1, .int .i64 0, .int .i64 200, .bool false, .int .i64 0, .int .i64 1, .int .i64 0, .int .i64 0, .int .i64 0, .int .i64 4, .int .i64 200, .bool true, .int .i64 0, .int .i64 1, .int .i64 1, .int .i64 1, .int .i64 0, .int .i64 2, .int .i64 200, .bool false, .int .i64 1, .int .i64 0, .int .i64 0, .int .i64 1, .int .i64 2, .int .i64 3, .int .i64 300, .bool true, .int .i64 1, .int .i64 0, .int .i64 1, .int .i64 0, .int .i64 0, .int .i64 0, .int .i64 150, .bool false] ES))) m5.lt, ⟨o2.below (below_new (o := (.cells #[.int .i64 0, .int .i64 0, .int .i64 0, .int .i64 0, .int .i64 3, .int .i64 0, .int .i64 200, .bool false, .int .i64 0, .int .i64 0, .int .i64 1, .int .i64 1, .int .i64 1, .int .i64 0, .int .i64 200, .bool false, .int .i64 0, .int .i64 1, .int .i64 0, .int .i64 0, .int .i64 0, .int .i64 4, .int .i64 200, .bool true, .int .i64 0, .int .i64 1, .int .i64 1, .int .i64 1, .int .i64 0, .int .i64 2, .int .i64 200, .bool false, .int .i64 1, .int .i64 0, .int .i64 0, .int .i64 1, .int .i64 2, .int .i64 3, .int .i64 300, .bool true, .int .i64 1, .int .i64 0, .int .i64 1, .int .i64 0, .int .i64 0, .int .i64 0, .int .i64 150, .bool false] ES))), om.below (below_new (o := (.cells #[.int .i64 0, .int .i64 0, .int .i64 0, .int .i64 0, .int .i64 3, .int .i64 0, .int .i64 200, .bool false, .int .i64 0, .int .i64 0, .int .i64 1, .int .i64 1, .int .i64 1, .int .i64 0, .int .i64 200, .bool false, .int .i64 0, .int .i64 1, .int .i64 0, .int .i64 0, .int .i64 0, .int .i64 4, .int .i64 200, .bool true, .int .i64 0, .int .i64 1, .int .i64 1, .int .i64 1, .int .i64 0, .int .i64 2, .int .i64 200, .bool false, .int .i64 1, .int .i64 0, .int .i64 0, .int .i64 1, .int .i64 2, .int .i64 3, .int .i64 300, .bool true, .int .i64 1, .int .i64 0, .int .i64 1, .int .i64 0, .int .i64 0, .int .i64 0, .int .i64 150, .bool false] ES))), o6⟩, below_two b5 (below_new (o := (.cells #[.int .i64 0, .int .i64 0, .int .i64 0, .int .i64 0, .int .i64 3, .int .i64 0, .int .i64 200, .bool false, .int .i64 0, .int .i64 0, .int .i64 1, .int .i64 1, .int .i64 1, .int .i64 0, .int .i64 200, .bool false, .int .i64 0, .int .i64 1, .int .i64 0, .int .i64 0, .int .i64 0, .int .i64 4, .int .i64 200, .bool true, .int .i64 0, .int .i64 1, .int .i64 1, .int .i64 1, .int .i64 0, .int .i64 2, .int .i64 200, .bool false, .int .i64 1, .int .i64 0, .int .i64 0, .int .i64 1, .int .i64 2, .int .i64 3, .int .i64 300, .bool true, .int .i64 1, .int .i64 0, .int .i64 1, .int .i64 0, .int .i64 0, .int .i64 0, .int .i64 150, .bool false] ES)))⟩
set_option maxRecDepth 100000 in
set_option maxHeartbeats 4000000 in
theorem ssmall_any (w : World) : Calls Tryz.prog 190 #[] w (GivesMe w smallMe) := by
  obtain ⟨hm, ho, hb⟩ := small_world w
  go_enter Tryz.func190, Tryz.ntmps190
  go_wp2_with fail
  generalize ((((((w.alloc (.cells #[.int .i64 77, .slice (some ⟨w.heap.size + 1, 0, none⟩) 2 2, .slice (some ⟨w.heap.size + 1 + 1 + 1 + 1, 0, none⟩) 2 2, .slice (some ⟨w.heap.size + 1 + 1 + 1 + 1 + 1, 0, none⟩) 6 6] 28)).alloc (.cells #[.int .i64 0, .string ⟨#[97]⟩, .int .i64 100, .bool false, .int .i64 1, .string ⟨#[98]⟩, .int .i64 50, .bool false] EN)).alloc (.cells #[.int .i64 1] EI)).alloc (.cells #[.int .i64 0] EI)).alloc (.cells #[.int .i64 2, .int .i64 2, .slice (some ⟨w.heap.size + 1 + 1, 0, none⟩) 1 1, .int .i64 1, .int .i64 2, .slice (some ⟨w.heap.size + 1 + 1 + 1, 0, none⟩) 1 1] EM)).alloc (.cells #[.int .i64 0, .int .i64 0, .int .i64 0, .int .i64 0, .int .i64 3, .int .i64 0, .int .i64 200, .bool false, .int .i64 0, .int .i64 0, .int .i64 1, .int .i64 1, .int .i64 1, .int .i64 0, .int .i64 200, .bool false, .int .i64 0, .int .i64 1, .int .i64 0, .int .i64 0, .int .i64 0, .int .i64 4, .int .i64 200, .bool true, .int .i64 0, .int .i64 1, .int .i64 1, .int .i64 1, .int .i64 0, .int .i64 2, .int .i64 200, .bool false, .int .i64 1, .int .i64 0, .int .i64 0, .int .i64 1, .int .i64 2, .int .i64 3, .int .i64 300, .bool true, .int .i64 1, .int .i64 0, .int .i64 1, .int .i64 0, .int .i64 0, .int .i64 0, .int .i64 150, .bool false] ES)) = wz at hm ho hb ⊢
  obtain ⟨q0, q1, q2, q3⟩ := hm.all
  exact bodyPost_ret (v := mvVal (smallMv w.heap.size)) (by simp [mvVal, results, Tryz.results190, go_sem, q0, q1, q2, q3]) rfl ⟨smallMv w.heap.size, rfl, rfl, ho, hb⟩
end
end Go.Proofs.YthihjhidjnadaaaGreat
