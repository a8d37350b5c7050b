/-
  Chapter 9: the blocks of some data; ImageOf of the program.
-/
import Derived.Test.YtckaknaeddiphaaKA
import Derived.Test.YtckaknaeddiphaaRngB
namespace Go.Proofs.Ytckaknaeddiphaa
open Go.RowKit Go.Shelf
attribute [local go_sem] Oper.semAt_some

theorem blocksOf_any (ao : Option Addr) (n cap : Nat) (w : World) (hn : n ≤ 1024) : Calls Try.prog 35 #[.slice ao n cap] w fun e w' =>
    e = .returned (.func (.func 52) #[] #[.pointer (some ⟨w.heap.size, 0, none⟩), .pointer (some ⟨w.heap.size + 1, 0, none⟩)]) ∧ Boxed w' w.heap.size 24 (.slice ao n cap) ∧ Boxed w' (w.heap.size + 1) 2 (.int .i64 ((blocksOf n : Int) - 1)) ∧ Below w.heap.size w w' ∧ w'.heap.size = w.heap.size + 2 := by
  have hc := fun W => blockCount_any n W (by omega)
  have hb1 := blocks_pos n
  have hbn : blocksOf n ≤ 1024 := by unfold blocksOf; omega
  generalize blocksOf n = B at *
  have bx := (Boxed.new w 24 (.slice ao n cap)).cell
  have bx2 := Boxed.new w 24 (.slice ao n cap)
  have hd : Below w.heap.size w (w.alloc (.cells #[.slice ao n cap] 24)) := (Below.refl _ _).alloc (Nat.le_refl _) _
  go_enter Try.func35, Try.ntmps35
  go_wp2_with fail
  refine (hc _).mono ?_
  rintro e w1 ⟨rfl, rfl⟩
  have by0 := Boxed.new (w.alloc (.cells #[.slice ao n cap] 24)) 2 (.int .i64 ((B : Int) - 1))
  rw [World.size_alloc] at by0
  go_wp2
  go_ret
  exact ⟨rfl, bx2.alloc _, by0, hd.alloc (by simp) _, by simp⟩
theorem blocks_seq (bd bl n cap : Nat) (ao : Option Addr) (xs : List Int) (w w0 : World) (hr : Rd w ao n xs) (hb : isBytes xs = true) (hn : n ≤ 868) (hcap : n ≤ cap) (hcap2 : cap ≤ 9223372036854775807)
    (M : Nat → Obj → Prop) (hw : Below w.heap.size w w0) (hM : ∀ k o, w0.heap.size ≤ k → notE 2 o = true → M k o) (hMw : ∀ k o, k < w.heap.size → M k o)
    (hMl : M bl (.cells #[.int .i64 ((blocksOf n : Int) - 1)] 2 (0, 0))) (cd : Boxed w0 bd 24 (.slice ao n cap)) (cl : Boxed w0 bl 2 (.int .i64 ((blocksOf n : Int) - 1))) :
    SeqR 9 Try.prog 52 #[.pointer (some ⟨bd, 0, none⟩), .pointer (some ⟨bl, 0, none⟩)] blkEnc (fun k x => x = blockOf xs k) M (blocksOf n) w0 := fun l J Jx W hW hl1 hl2 hJ hJx hY h0 =>
  blocks_in l bd bl n cap ao xs w hr hb hn hcap hcap2 M J Jx W (Low.of_below (below_two hw hW)) (Nat.le_trans hw.size hW.size) hl2 (fun k o hk ho => hM k o (Nat.le_trans hW.size hk) ho) hMw (Nat.le_trans hw.size hl1) hMl (by have := cl.lt; omega) hJ hJx (boxed_below cd hW) (boxed_below cl hW) hY h0
theorem own_size {β : Type} (m B : Nat) : OwnFrom B (fun (_ : β) W => m ≤ W.heap.size) := fun _ _ _ _ h hg _ => Nat.le_trans h hg.size
theorem own_cells {E : Nat} {W : World} {base : Nat} {v : Value} {xs : List Int} (h : Own E W base v xs) {j : Nat} (hj : v.ownBlock = some j) : base ≤ j ∧ ∃ cur, W.heap[j]? = some (.cells cur E (0, 0)) := by
  rcases h.2 with ⟨rfl, _⟩ | ⟨g, cap, cur, rfl, hb, hgb, _⟩
  · simp [Value.ownBlock] at hj
  · obtain rfl : g = j := by simpa [Value.ownBlock] using hj
    exact ⟨hb, cur, hgb⟩
/-- What a round keeps that writes the box b and a row of its own: what lay below n but b, and from n on what is no cells of type E. -/
def keepM (E n b : Nat) (k : Nat) (o : Obj) : Prop := (k < n ∧ k ≠ b) ∨ (n ≤ k ∧ notE E o = true)
theorem keep_push {E n b : Nat} {A B : World} {v : Value} {xs : List Int} (ho : Own E A n v xs) (hg : A.grownBy B v.ownBlock) (hb : b < n) (v' : Value) : Keeps (keepM E n b) A (B.setCell ⟨b, 0, none⟩ v') :=
  (Keeps.of_grown hg (fun j o hj hjo hm => by
    obtain ⟨h1, cur, h2⟩ := own_cells ho hj
    rw [h2] at hjo; cases hjo
    rcases hm with hm | hm
    · omega
    · simp [notE] at hm)).trans (Keeps.set _ _ (fun o hm => by rcases hm with hm | hm <;> omega))
theorem blk_own {β : Type} (b : Nat) (xs : List Int) (B : Nat) : OwnFrom B (fun (_ : β) W => BlkAt W b xs) := fun s X Y row h hg hr => ArrAt.grown h hg (fun e => by
  obtain ⟨_, o, ho, hc⟩ := hr b e
  rw [show X.heap[b]? = _ from h] at ho; cases ho; cases hc)
set_option linter.unusedSimpArgs false in
set_option maxRecDepth 100000 in
set_option maxHeartbeats 4000000 in
theorem image_in (ao : Option Addr) (n cap : Nat) (xs : List Int) (w : World) (hr : Rd w ao n xs) (hb : isBytes xs = true) (hn : n ≤ 868) (hcap : n ≤ cap) (hcap2 : cap ≤ 9223372036854775807) :
    Calls Try.prog 11 #[.slice ao n cap] w (Makes2 2 w (image9 xs) 0) := by
  have hlen := hr.len
  have hall : image9 xs = imgTo xs (blocksOf n) := by rw [← imgTo_all, hlen]
  rw [hall]
  have hisb := fun W h => isBytes_any ao n cap xs W h (by omega)
  rw [hb] at hisb
  have hle : ¬ ((868 : Int) < (n : Int)) := by omega
  have hB31 := blocks_31 hn
  refine (callsIn_wide (n := 10)).1 ?_
  refine callsIn_of_wp_marks Try.func11 rfl trivial ?_ rfl
  simp only [Try.ntmps11, List.size_toArray, List.length_cons, List.length_nil, Nat.reduceAdd, Nat.reduceSub, Array.replicate_succ, Array.replicate_zero, List.push_toArray, List.append_toArray, List.nil_append, List.cons_append]
  gi_wp2_with (refine ⟨trivial, ?_⟩; gi_at_call 34; refine (callsIn_wide.2 (hisb _ hr)).mono ?_; rintro e w' ⟨rfl, rfl⟩)
  have b0 := Boxed.new w 24 (.slice none 0 0)
  have hb0 : Below w.heap.size w (w.alloc (.cells #[.slice none 0 0] 24)) := (Below.refl _ _).alloc (Nat.le_refl _) _
  refine ⟨trivial, (callsIn_wide.2 (blocksOf_any ao n cap _ (by omega))).mono ?_⟩
  rintro e w1 ⟨rfl, cd, cl, hb1, hs1⟩
  simp only [World.size_alloc] at cd cl hs1 ⊢
  have bi := boxed_below b0 hb1
  have hbw := below_two hb0 hb1
  clear hb0 b0 hb1
  gi_wp2
  refine wpIn_range (n := 10) (gf := 52) (lb := #[.pointer (some ⟨w.heap.size + 1, 0, none⟩), .pointer (some ⟨w.heap.size + 1 + 1, 0, none⟩)]) rfl (enters_of Try.func52 (by kernel_rfl) rfl)
    (blocks_seq (w.heap.size + 1) (w.heap.size + 1 + 1) n cap ao xs w w1 hr hb hn hcap hcap2 (keepM 2 w1.heap.size w.heap.size) hbw (fun k o hk ho => .inr ⟨hk, ho⟩) (fun k o hk => .inl ⟨by omega, by omega⟩) (.inl ⟨by omega, by omega⟩) cd cl) (Below.refl _ _)
    (fun k o hk hc => .inr ⟨hk, notE_of_not hc⟩) (fun _ => rfl)
    (fun k W' => HoldsL 2 24 w1.heap.size w.heap.size W' (imgTo xs k) ∧ (Below w.heap.size w W' ∧ w1.heap.size ≤ W'.heap.size))
    (fun _ _ _ => False)
    (OwnFrom.and (own_holds _ _ _ _ _ _) (OwnFrom.and (ownFrom_below (Nat.le_refl _) (by omega)) (own_size _ _)))
    (fun _ _ _ _ _ h _ _ => h)
    ⟨⟨_, bi, Own.nil_⟩, hbw, Nat.le_refl _⟩
    (fun k x a' W' => ∃ bx, w1.heap.size ≤ bx ∧ BlkAt W' bx x ∧ a' = { tmps := #[.slice ao n cap, undef, .slice none 0 0, .int .i64 0, .pointer (some ⟨w.heap.size, 0, none⟩), .pointer (some ⟨bx, 0, none⟩), .bool false, .slice ao n cap, .bool true, .bool false, .bool (decide ((868 : Int) < (n : Int))), .slice ao n cap, .int .i64 (n : Int), .bool (decide ((868 : Int) < (n : Int))), .slice ao n cap, .func (.func 52) #[] #[.pointer (some ⟨w.heap.size + 1, 0, none⟩), .pointer (some ⟨w.heap.size + 1 + 1, 0, none⟩)], blkVal x, undef, undef, undef, undef], defers := [] })
    (fun k x a' s A Bw row h hg hrw => by obtain ⟨bx, h1, h2, h3⟩ := h; exact ⟨bx, h1, blk_own (β := Unit) bx x w1.heap.size () A Bw row h2 hg hrw, h3⟩)
    ?assign ?body ?done ?stop
  case assign =>
    rintro l k x W1 K hk rfl ⟨hL, hB, hs1W⟩ hK
    dsimp only [blkEnc]
    have hbl := block_le xs k
    generalize blockOf xs k = X at hbl hK ⊢
    obtain ⟨C, hC⟩ : ∃ C, C = cellsI (blk X) := ⟨_, rfl⟩
    have I1 := Lib.hid (infoBlk_of hbl)
    have N1 := Lib.hid (cellsI_one (blk X))
    have I0 := Lib.hid (show (cellsI (blk [])).size = (cellsI (blk X)).size from by rw [cellsI_size, cellsI_size, blk_len hbl]; rfl)
    have hV : blkVal X = .agg C := by rw [hC]; rfl
    rw [← hC] at I1 N1 I0
    rw [hV] at hK ⊢
    obtain ⟨Z, hZ⟩ : ∃ Z, Z = cellsI (blk []) := ⟨_, rfl⟩
    have hzz : (#[.int .i64 0, .int .i64 0, .int .i64 0, .int .i64 0, .int .i64 0, .int .i64 0, .int .i64 0, .int .i64 0, .int .i64 0, .int .i64 0, .int .i64 0, .int .i64 0, .int .i64 0, .int .i64 0, .int .i64 0, .int .i64 0, .int .i64 0, .int .i64 0, .int .i64 0, .int .i64 0, .int .i64 0, .int .i64 0, .int .i64 0, .int .i64 0, .int .i64 0, .int .i64 0, .int .i64 0, .int .i64 0, .int .i64 0, .int .i64 0, .int .i64 0, .int .i64 0, .int .i64 0, .int .i64 0] : Array Value) = Z := by rw [hZ]; rfl
    rw [← hZ] at I0
    clear hZ
    have H0 := Lib.hid (heap_alloc_new W1 (.cells Z 51))
    have HC := Lib.hid hC
    clear hC hV hbl
    gi_wp2_with (with_reducible refine listIn_store_row rfl 51 (.tmp 5) (.tmp 16) rfl W1.heap.size C rfl rfl _ Z H0.out I1.out I0.out N1.out ?_)
    have hb2 : Below W1.heap.size W1 ((W1.alloc (.cells Z 51)).setRow W1.heap.size C) := below_setRow ((Below.refl _ _).alloc (Nat.le_refl _) _) (Nat.le_refl _) _
    have h9 := setRow_heap (W1.alloc (.cells Z 51)) W1.heap.size Z C _ _ H0.out
    rw [HC.out] at h9
    exact hK _ _ (Keeps.still hb2) ⟨hL.still hb2, below_two hB hb2, Nat.le_trans hs1W hb2.size⟩ ⟨W1.heap.size, hs1W, by rw [HC.out]; exact h9, rfl⟩
  case body =>
    rintro l k x a' W1 hl hk rfl ⟨⟨v, hv, ho⟩, hB, hs1W⟩ ⟨bx, hbx, hblk, rfl⟩
    have hmx : Try.prog.follows .mixedOrders = true := by kernel_rfl
    have hbl := block_le xs k
    have hac := imgTo_len xs k
    have hsu : imgTo xs (k + 1) = imgTo xs k ++ blockOf xs k := imgTo_succ xs k
    obtain ⟨X, hX⟩ : ∃ X, blockOf xs k = X := ⟨_, rfl⟩
    rw [hX] at hbl hsu hblk ⊢
    obtain ⟨acc, hacc⟩ : ∃ acc, imgTo xs k = acc := ⟨_, rfl⟩
    rw [hacc] at hac hsu ho
    have HBL := Lib.hid hbl; have HSU := Lib.hid hsu; have HAC := Lib.hid (show acc.length ≤ 2000 by omega)
    have HBK := Lib.hid (hblk.below (Below.drew (Below.refl W1.heap.size W1)) hblk.lt)
    have HV := Lib.hid (show Boxed W1.drew w.heap.size 24 v from hv)
    have HO := Lib.hid (ho.below (Below.drew (Below.refl W1.heap.size W1)))
    have HB2 := Lib.hid hB.drew
    have HS2 := Lib.hid (show w1.heap.size ≤ W1.drew.heap.size from hs1W)
    have HK2 := Lib.hid (Keeps.drew (M := keepM 2 w1.heap.size w.heap.size) W1)
    have HSZ := Lib.hid (show w.heap.size < w1.heap.size by omega)
    clear hbl hsu hac hblk hv ho hB hs1W hX hacc
    gi_wp2
    refine wpIn_region_any hmx ?_
    change wpAnyIn _ _ _ _ _ _ _ _ _ (World.drew _)
    generalize W1.drew = W2 at HBK HV HO HB2 HS2 HK2 ⊢
    have hcv := HV.out.cell
    refine wpAnyIn_ready (rs := [0, 1]) (by kernel_rfl) (by simp) (AllReadyIn.cons rfl (fun K hK => ?_) (AllReadyIn.cons rfl (fun K hK => ?_) AllReadyIn.nil))
    · go_simp
      refine hK _ _ ?_
      clear hK K
      try simp only [List.getElem_toArray, List.getElem_cons_succ, List.getElem_cons_zero, Act.put, List.setIfInBounds_toArray, List.set_cons_zero, List.set_cons_succ]
      refine wpAnyIn_ready (rs := [1]) (by kernel_rfl) (by simp) (AllReadyIn.cons rfl (fun K hK => ?_) AllReadyIn.nil)
      go_simp
      refine ⟨trivial, (CallsIn.inRound l (callsIn_wide.2 (list_any bx X _ HBK.out HBL.out))).mono ?_⟩
      rintro e w3 ⟨rfl, rfl⟩
      refine hK _ _ ?_
      clear hK K
      try simp only [List.getElem_toArray, List.getElem_cons_succ, List.getElem_cons_zero, Act.put, List.setIfInBounds_toArray, List.set_cons_zero, List.set_cons_succ]
      have HV3 := Lib.hid (show Boxed W2.drew w.heap.size 24 v from HV.out)
      have HO3 := Lib.hid (HO.out.below (Below.drew (Below.refl W2.heap.size W2)))
      have HR3 := Lib.hid ((HBK.out.rd HBL.out).below (Below.drew (Below.refl W2.heap.size W2)))
      have HS3 := Lib.hid (show w1.heap.size ≤ W2.drew.heap.size from HS2.out)
      have HB3 := Lib.hid HB2.out.drew
      have HK3 := Lib.hid (HK2.out.trans (Keeps.drew W2))
      generalize W2.drew = w3 at HV3 HO3 HR3 HS3 HB3 HK3 ⊢
      refine wpAnyIn_ready (rs := [2]) (by kernel_rfl) (by simp) (AllReadyIn.cons rfl (fun K hK => ?_) AllReadyIn.nil)
      rw [if_pos (by rfl)]
      refine op_append_list (.tmp 17) (.tmp 18) rfl w1.heap.size Try.underlying24 info64 v acc rfl HO3.out _ _ _ X rfl HR3.out (by have := HAC.out; have := HBL.out; omega) HS3.out ?_
      intro v' w4 o4 g4
      obtain ⟨p4, c4, rfl, o4, -⟩ := o4.get
      obtain ⟨hv4, hL4⟩ := HoldsL.push (by decide) HSZ.out HV3.out HO3.out g4 o4
      have hk4 := keep_push HO3.out g4 HSZ.out (.slice p4 (acc ++ X).length c4)
      have hz4 : w1.heap.size ≤ (w4.setCell ⟨w.heap.size, 0, none⟩ (.slice p4 (acc ++ X).length c4)).heap.size := by have := hk4.size; have := HS3.out; omega
      rw [List.length_append] at hL4 hk4 hz4
      have hb4 := only_below HB3.out g4 (Nat.le_trans HSZ.out HS3.out |> fun h => by omega) (fun j hj => by have := (HO3.out.block j hj).1; have := HSZ.out; omega)
      refine hK _ _ ?_
      clear hK K
      have hc4 := hv4.cell; have hf4 := hv4.frozen
      refine wpAnyIn_ready (rs := [3]) (by kernel_rfl) (by simp) (AllReadyIn.cons rfl (fun K hK => ?_) AllReadyIn.nil)
      go_simp
      refine hK _ _ ?_
      clear hK K
      refine wpAnyIn_done (by kernel_rfl) ?_ _
      gi_wp2
      exact ⟨HK3.out.trans hk4, by rw [HSU.out]; exact hL4, hb4.setCell (p := ⟨w.heap.size, 0, none⟩) (Nat.le_refl _) _, hz4⟩
    · go_simp
      refine ⟨trivial, (CallsIn.inRound l (callsIn_wide.2 (list_any bx X _ HBK.out HBL.out))).mono ?_⟩
      rintro e w3 ⟨rfl, rfl⟩
      refine hK _ _ ?_
      clear hK K
      try simp only [List.getElem_toArray, List.getElem_cons_succ, List.getElem_cons_zero, Act.put, List.setIfInBounds_toArray, List.set_cons_zero, List.set_cons_succ]
      have hcv3 : W2.drew.cell? ⟨w.heap.size, 0, none⟩ = some v := hcv
      refine wpAnyIn_ready (rs := [0]) (by kernel_rfl) (by simp) (AllReadyIn.cons rfl (fun K hK => ?_) AllReadyIn.nil)
      go_simp
      refine hK _ _ ?_
      clear hK K
      try simp only [List.getElem_toArray, List.getElem_cons_succ, List.getElem_cons_zero, Act.put, List.setIfInBounds_toArray, List.set_cons_zero, List.set_cons_succ]
      clear hcv3
      have HV3 := Lib.hid (show Boxed W2.drew w.heap.size 24 v from HV.out)
      have HO3 := Lib.hid (HO.out.below (Below.drew (Below.refl W2.heap.size W2)))
      have HR3 := Lib.hid ((HBK.out.rd HBL.out).below (Below.drew (Below.refl W2.heap.size W2)))
      have HS3 := Lib.hid (show w1.heap.size ≤ W2.drew.heap.size from HS2.out)
      have HB3 := Lib.hid HB2.out.drew
      have HK3 := Lib.hid (HK2.out.trans (Keeps.drew W2))
      generalize W2.drew = w3 at HV3 HO3 HR3 HS3 HB3 HK3 ⊢
      refine wpAnyIn_ready (rs := [2]) (by kernel_rfl) (by simp) (AllReadyIn.cons rfl (fun K hK => ?_) AllReadyIn.nil)
      rw [if_pos (by rfl)]
      refine op_append_list (.tmp 17) (.tmp 18) rfl w1.heap.size Try.underlying24 info64 v acc rfl HO3.out _ _ _ X rfl HR3.out (by have := HAC.out; have := HBL.out; omega) HS3.out ?_
      intro v' w4 o4 g4
      obtain ⟨p4, c4, rfl, o4, -⟩ := o4.get
      obtain ⟨hv4, hL4⟩ := HoldsL.push (by decide) HSZ.out HV3.out HO3.out g4 o4
      have hk4 := keep_push HO3.out g4 HSZ.out (.slice p4 (acc ++ X).length c4)
      have hz4 : w1.heap.size ≤ (w4.setCell ⟨w.heap.size, 0, none⟩ (.slice p4 (acc ++ X).length c4)).heap.size := by have := hk4.size; have := HS3.out; omega
      rw [List.length_append] at hL4 hk4 hz4
      have hb4 := only_below HB3.out g4 (Nat.le_trans HSZ.out HS3.out |> fun h => by omega) (fun j hj => by have := (HO3.out.block j hj).1; have := HSZ.out; omega)
      refine hK _ _ ?_
      clear hK K
      have hc4 := hv4.cell; have hf4 := hv4.frozen
      refine wpAnyIn_ready (rs := [3]) (by kernel_rfl) (by simp) (AllReadyIn.cons rfl (fun K hK => ?_) AllReadyIn.nil)
      go_simp
      refine hK _ _ ?_
      clear hK K
      refine wpAnyIn_done (by kernel_rfl) ?_ _
      gi_wp2
      exact ⟨HK3.out.trans hk4, by rw [HSU.out]; exact hL4, hb4.setCell (p := ⟨w.heap.size, 0, none⟩) (Nat.le_refl _) _, hz4⟩
  case done =>
    rintro D W' hD ⟨⟨v, hv, ho⟩, hB, hs1W⟩ hK
    have hc := hv.cell
    gi_wp2
    refine ⟨by simp, .inl ⟨_, _, rfl, run_takeDeferred hK, ?_⟩⟩
    exact ⟨_, results_tmp2 rfl _ _ _, v, rfl, (ho.only (grownBy_putObj' W' D (.deferred none)) (by
      cases hk : v.ownBlock with
      | none => exact .inl rfl
      | some j => exact .inr (fun e => by obtain ⟨_, cur, h2⟩ := own_cells ho hk; cases e; rw [hK] at h2; cases h2))).more (by omega), hB.trans (belowK_b (w := w) (Nat.le_refl _) W' D _ _ (by omega) hK rfl rfl)⟩
  case stop =>
    rintro D c k W' _ _ _ h _
    exact h.elim
end Go.Proofs.Ytckaknaeddiphaa
