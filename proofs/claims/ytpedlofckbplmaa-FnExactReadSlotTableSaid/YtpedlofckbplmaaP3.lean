/-
  Chapter 11: what the laws' walks ask of a table among slices of the call's own. 
-/
import Derived.Test.YtpedlofckbplmaaP2
import Derived.Test.YtpedlofckbplmaaQ1
namespace Go.Proofs.Ytpedlofckbplmaa
open Go.RowKit

section
variable {w0 w w' : World} {L1 L2 : List It} {E EI : Nat} {v : Value} {xs ys : List Int}
theorem Hold.getI_ (h : Hold w0 w (L1 ++ ([ints E v xs] ++ L2))) : Own E w w0.heap.size v xs := h.own (ints E v xs) (by simp)
theorem Hold.rdI_ {ao : Option Addr} {n cap : Nat} (h : Hold w0 w (L1 ++ ([ints E (.slice ao n cap) xs] ++ L2))) : Rd w ao xs.length xs := by
  obtain ⟨ao', cap', e, o, r⟩ := h.getI_.get
  cases e
  exact r
theorem Hold.markI_ (h : Hold w0 w (L1 ++ ([ints E v xs] ++ L2))) (o : Own E w' w0.heap.size v ys) (g : w.grownBy w' v.ownBlock) : Hold w0 w' (L1 ++ ([ints E v ys] ++ L2)) :=
  Hold.mark (p := ints E v xs) (q := ints E v ys) L1 h rfl o g
end
theorem small_of {cs : List Mc} {t : List Md} (h : mds cs = t) (ht : ∀ x ∈ t, x.next.length ≤ 1048576) : smallM cs := fun c hc => ht c.md (by rw [← h]; exact List.mem_map_of_mem hc)
theorem len_of {cs : List Mc} {t : List Md} (h : mds cs = t) : cs.length = t.length := by rw [← h, mds_len]
theorem eqModes_two (ao bo : Option Addr) (c d : Nat) (cs ds : List Mc) (w : World) (hx : RdM w ao cs.length cs) (hy : RdM w bo ds.length ds) (he : mds cs = mds ds) (hn : cs.length ≤ 9223372036854775807) :
    Calls Try.prog 35 #[.slice ao cs.length c, .slice bo ds.length d] w fun e w' => e = .returned (.bool true) ∧ Below w.heap.size w w' := by
  have e : ds.length = cs.length := (len_of he.symm).trans (mds_len cs)
  rw [e] at hy ⊢
  exact eqModes_yes ao bo cs.length c d cs ds w hx hy he hn
theorem likeModes_two (ao bo : Option Addr) (c d : Nat) (cs ds : List Mc) (w : World) (hx : RdM w ao cs.length cs) (hy : RdM w bo ds.length ds) (he : mds cs = mds ds) (hn : cs.length ≤ 9223372036854775807) :
    Calls Try.prog 32 #[.slice ao cs.length c, .slice bo ds.length d] w fun e w' => e = .returned (.bool true) ∧ Below w.heap.size w w' := by
  have e : ds.length = cs.length := (len_of he.symm).trans (mds_len cs)
  rw [e] at hy ⊢
  exact likeModes_yes ao bo cs.length c d cs ds w hx hy he hn
theorem rdM_marks {w : World} {ao : Option Addr} {q : Int} {cs : List Mc} (h : RdM w ao (markMs q cs).length (markMs q cs)) : RdM w ao cs.length (markMs q cs) := by rwa [markMs_len] at h
theorem mTot_valid {t : List Md} (h : isModes t = true) : mTot t ≤ 288 := by
  have h1 := (isModes_iff.1 h).1
  have h2 : ∀ r : List Md, (∀ x ∈ r, x.next.length ≤ 16) → mTot r ≤ 18 * r.length := by
    intro r
    induction r with
    | nil => intro _; simp [mTot]
    | cons x r ih =>
      intro hr
      have := ih (fun y hy => hr y (by simp [hy]))
      have := hr x (by simp)
      rw [mTot, List.length_cons]; omega
  have := h2 t (fun x hx => by have := rises_len (modes_md h hx).2.2; omega)
  omega
theorem small_valid {t : List Md} (h : isModes t = true) : ∀ x ∈ t, x.next.length ≤ 1048576 := fun x hx => by have := rises_len (modes_md h hx).2.2; have := (isModes_iff.1 h).1; omega

end Go.Proofs.Ytpedlofckbplmaa
