/-
  Chapter 9: the blocks of an image, as the program's iterator hands them over.
-/
import Derived.Test.YtckaknaeddiphaaK9
import Derived.Test.YtckaknaeddiphaaK6
import Derived.Test.YtckaknaeddiphaaInvIn
namespace Go.Proofs.Ytckaknaeddiphaa
open Go.RowKit Go.Shelf
attribute [local go_sem] Oper.semAt_some

/-- The k-th block is the one of the plain image. -/
theorem head_is (xs : List Int) (k : Nat) : headB k (partOf xs k) (decide (k + 1 = blocksOf xs.length)) = headOf xs k := by
  unfold headB headOf flag9
  congr 2
  by_cases h : k + 1 = blocksOf xs.length <;> simp [h]
theorem own_j {J : Nat → World → Prop} {b k : Nat} (h : OwnFrom b J) : OwnFrom b (fun (_ : Unit) W => J k W) := fun _ A B row hs hg hr => h k A B row hs hg hr
theorem fl_none (n j : Nat) : fl (Array.replicate n false) j = false := by
  unfold fl
  rw [Array.getD_eq_getD_getElem?, Array.getElem?_replicate]
  split <;> rfl
theorem round_any {n n' : Nat} {P : Program} {l f : Nat} {tmps : Array Value} {assign body : Code} {w : World} {R : Ending → World → Prop} (l2 : Nat) (h : RoundIn Fence.wide n P l f tmps assign body w R) : RoundIn (Fence.wide.inRound l2) n' P l f tmps assign body w R :=
  ⟨trivial, fun c cs _ => h.2 c cs (room_wide _)⟩
def blkEnc (x : List Int) : Array Value := #[blkVal x]
/-- While a block is made and handed over: which operations are done, and what their slots hold. -/
structure PB (W1 w' : World) (f : Nat → Bool) (Y K S L Q V v0 v1 v2 v3 v4 v5 v6 : Value) : Prop where
  n7 : f 7 = false
  n8 : f 8 = false
  bel : Below W1.heap.size W1 w'
  f0 : f 0 = true → v0 = Y
  f1 : f 1 = true → v1 = K
  f2 : f 2 = true → v2 = S
  f3 : f 3 = true → v3 = K
  f4 : f 4 = true → v4 = L
  f5 : f 5 = true → v5 = Q
  f6 : f 6 = true → v6 = V
  c5 : f 5 = true → f 3 = true ∧ f 4 = true
  c6 : f 6 = true → f 1 = true ∧ f 2 = true ∧ f 5 = true
section
variable {W1 w' w2 : World} {f : Nat → Bool} {Y K S L Q V v0 v1 v2 v3 v4 v5 v6 : Value}
theorem PB.s0 (h : PB W1 w' f Y K S L Q V v0 v1 v2 v3 v4 v5 v6) : PB W1 w' (upd f 0) Y K S L Q V Y v1 v2 v3 v4 v5 v6 where
  n7 := by simpa [upd] using h.n7
  n8 := by simpa [upd] using h.n8
  bel := h.bel
  f0 := fun _ => rfl
  f1 := by simpa [upd] using h.f1
  f2 := by simpa [upd] using h.f2
  f3 := by simpa [upd] using h.f3
  f4 := by simpa [upd] using h.f4
  f5 := by simpa [upd] using h.f5
  f6 := by simpa [upd] using h.f6
  c5 := fun hx => by have := h.c5 (by simpa [upd] using hx); simp [upd, this]
  c6 := fun hx => by have := h.c6 (by simpa [upd] using hx); simp [upd, this]
theorem PB.s1 (h : PB W1 w' f Y K S L Q V v0 v1 v2 v3 v4 v5 v6) : PB W1 w' (upd f 1) Y K S L Q V v0 K v2 v3 v4 v5 v6 where
  n7 := by simpa [upd] using h.n7
  n8 := by simpa [upd] using h.n8
  bel := h.bel
  f0 := by simpa [upd] using h.f0
  f1 := fun _ => rfl
  f2 := by simpa [upd] using h.f2
  f3 := by simpa [upd] using h.f3
  f4 := by simpa [upd] using h.f4
  f5 := by simpa [upd] using h.f5
  f6 := by simpa [upd] using h.f6
  c5 := fun hx => by have := h.c5 (by simpa [upd] using hx); simp [upd, this]
  c6 := fun hx => by have := h.c6 (by simpa [upd] using hx); simp [upd, this]
theorem PB.s2 (h : PB W1 w' f Y K S L Q V v0 v1 v2 v3 v4 v5 v6) : PB W1 w' (upd f 2) Y K S L Q V v0 v1 S v3 v4 v5 v6 where
  n7 := by simpa [upd] using h.n7
  n8 := by simpa [upd] using h.n8
  bel := h.bel
  f0 := by simpa [upd] using h.f0
  f1 := by simpa [upd] using h.f1
  f2 := fun _ => rfl
  f3 := by simpa [upd] using h.f3
  f4 := by simpa [upd] using h.f4
  f5 := by simpa [upd] using h.f5
  f6 := by simpa [upd] using h.f6
  c5 := fun hx => by have := h.c5 (by simpa [upd] using hx); simp [upd, this]
  c6 := fun hx => by have := h.c6 (by simpa [upd] using hx); simp [upd, this]
theorem PB.s3 (h : PB W1 w' f Y K S L Q V v0 v1 v2 v3 v4 v5 v6) : PB W1 w' (upd f 3) Y K S L Q V v0 v1 v2 K v4 v5 v6 where
  n7 := by simpa [upd] using h.n7
  n8 := by simpa [upd] using h.n8
  bel := h.bel
  f0 := by simpa [upd] using h.f0
  f1 := by simpa [upd] using h.f1
  f2 := by simpa [upd] using h.f2
  f3 := fun _ => rfl
  f4 := by simpa [upd] using h.f4
  f5 := by simpa [upd] using h.f5
  f6 := by simpa [upd] using h.f6
  c5 := fun hx => by have := h.c5 (by simpa [upd] using hx); simp [upd, this]
  c6 := fun hx => by have := h.c6 (by simpa [upd] using hx); simp [upd, this]
theorem PB.s4 (h : PB W1 w' f Y K S L Q V v0 v1 v2 v3 v4 v5 v6) : PB W1 w' (upd f 4) Y K S L Q V v0 v1 v2 v3 L v5 v6 where
  n7 := by simpa [upd] using h.n7
  n8 := by simpa [upd] using h.n8
  bel := h.bel
  f0 := by simpa [upd] using h.f0
  f1 := by simpa [upd] using h.f1
  f2 := by simpa [upd] using h.f2
  f3 := by simpa [upd] using h.f3
  f4 := fun _ => rfl
  f5 := by simpa [upd] using h.f5
  f6 := by simpa [upd] using h.f6
  c5 := fun hx => by have := h.c5 (by simpa [upd] using hx); simp [upd, this]
  c6 := fun hx => by have := h.c6 (by simpa [upd] using hx); simp [upd, this]
theorem PB.s5 (h : PB W1 w' f Y K S L Q V v0 v1 v2 v3 v4 v5 v6) (d3 : f 3 = true) (d4 : f 4 = true) : PB W1 w' (upd f 5) Y K S L Q V v0 v1 v2 v3 v4 Q v6 where
  n7 := by simpa [upd] using h.n7
  n8 := by simpa [upd] using h.n8
  bel := h.bel
  f0 := by simpa [upd] using h.f0
  f1 := by simpa [upd] using h.f1
  f2 := by simpa [upd] using h.f2
  f3 := by simpa [upd] using h.f3
  f4 := by simpa [upd] using h.f4
  f5 := fun _ => rfl
  f6 := by simpa [upd] using h.f6
  c5 := fun _ => ⟨by simp [upd, d3], by simp [upd, d4]⟩
  c6 := fun hx => by have := h.c6 (by simpa [upd] using hx); simp [upd, this]
theorem PB.s6 (h : PB W1 w' f Y K S L Q V v0 v1 v2 v3 v4 v5 v6) (d1 : f 1 = true) (d2 : f 2 = true) (d5 : f 5 = true) : PB W1 w' (upd f 6) Y K S L Q V v0 v1 v2 v3 v4 v5 V where
  n7 := by simpa [upd] using h.n7
  n8 := by simpa [upd] using h.n8
  bel := h.bel
  f0 := by simpa [upd] using h.f0
  f1 := by simpa [upd] using h.f1
  f2 := by simpa [upd] using h.f2
  f3 := by simpa [upd] using h.f3
  f4 := by simpa [upd] using h.f4
  f5 := by simpa [upd] using h.f5
  f6 := fun _ => rfl
  c5 := fun hx => by have := h.c5 (by simpa [upd] using hx); simp [upd, this]
  c6 := fun _ => ⟨by simp [upd, d1], by simp [upd, d2], by simp [upd, d5]⟩
theorem done_all (h : PB W1 w' f Y K S L Q V v0 v1 v2 v3 v4 v5 v6) (d0 : f 0 = true) (d6 : f 6 = true) (j : Nat) (hj : j < 8) : (if 7 = j then true else f j) = true := by
  have h6 := h.c6 d6
  have h5 := h.c5 h6.2.2
  have hc : j = 0 ∨ j = 1 ∨ j = 2 ∨ j = 3 ∨ j = 4 ∨ j = 5 ∨ j = 6 ∨ j = 7 := by omega
  rcases hc with rfl | rfl | rfl | rfl | rfl | rfl | rfl | rfl <;> simp [d0, d6, h6, h5]
theorem PB.world (h : PB W1 w' f Y K S L Q V v0 v1 v2 v3 v4 v5 v6) (hb : Below w'.heap.size w' w2) : PB W1 w2 f Y K S L Q V v0 v1 v2 v3 v4 v5 v6 := { h with bel := below_two h.bel hb }
end
set_option linter.unusedSimpArgs false in
set_option maxRecDepth 100000 in
set_option maxHeartbeats 4000000 in
theorem blocks_in (l bd bl n cap : Nat) (ao : Option Addr) (xs : List Int) (w : World) (hr : Rd w ao n xs) (hb : isBytes xs = true) (hn : n ≤ 868) (hcap : n ≤ cap) (hcap2 : cap ≤ 9223372036854775807)
    (M : Nat → Obj → Prop) (J Jx : Nat → World → Prop) (W : World) (hw : Low w W) (hws : w.heap.size ≤ W.heap.size) (hl : l < W.heap.size)
    (hM : ∀ k o, W.heap.size ≤ k → notE 2 o = true → M k o) (hMw : ∀ k o, k < w.heap.size → M k o) (hlw : w.heap.size ≤ l)
    (hMl : M bl (.cells #[.int .i64 ((blocksOf n : Int) - 1)] 2 (0, 0))) (hbl : bl ≠ l)
    (hJ : OwnFrom W.heap.size J) (hJx : OwnFrom W.heap.size Jx) (cd : Boxed W bd 24 (.slice ao n cap)) (cl : Boxed W bl 2 (.int .i64 ((blocksOf n : Int) - 1)))
    (hY : ∀ k x W1, k < blocksOf n → x = blockOf xs k → J k W1 → YieldAt Fence.wide 8 Try.prog l (blkEnc x) W1 fun e W' => Keeps (fun k o => k ≠ l ∧ M k o) W1 W' ∧
      ((e = .returned (.bool true) ∧ J (k + 1) W') ∨ (e = .returned (.bool false) ∧ Jx (k + 1) W'))) (h0 : J 0 W) :
    CallsIn Fence.wide 9 Try.prog 52 #[.func (.yield l) #[] #[], .pointer (some ⟨bd, 0, none⟩), .pointer (some ⟨bl, 0, none⟩)] W fun e W' => (∃ v, e = .returned v) ∧ (J (blocksOf n) W' ∨ ∃ k, 1 ≤ k ∧ k ≤ blocksOf n ∧ Jx k W') := by
  have hlen := hr.len
  obtain ⟨B, hB⟩ : ∃ B, blocksOf n = B := ⟨_, rfl⟩
  rw [hB] at hMl cl hY ⊢
  have hB1 : 1 ≤ B := by rw [← hB]; exact blocks_pos _
  have hB31 : B ≤ 31 := by rw [← hB]; exact blocks_31 hn
  have hBk : ∀ k, k < B → (k + 1 < B ↔ 28 * (k + 1) < n) := fun k hk => by unfold blocksOf at hB; omega
  refine callsIn_of_wp_marks Try.func52 rfl trivial ?_ rfl
  simp only [Try.ntmps52, List.size_toArray, List.length_cons, List.length_nil, Nat.reduceAdd, Nat.reduceSub, Array.replicate_succ, Array.replicate_zero, List.push_toArray, List.append_toArray, List.nil_append, List.cons_append]
  have dd := (cd.alloc (.cells #[.func (.yield l) #[] #[]] 66)).cell
  gi_wp2_with (refine ⟨trivial, ?_⟩; gi_at_call 40; refine (callsIn_wide.2 (partsOf_any ao n cap 28 _)).mono ?_; rintro e w' ⟨rfl, rfl⟩)
  have yB0 := ((Boxed.new W 66 (.func (.yield l) #[] #[])).alloc (.cells #[.slice ao n cap] 24)).alloc (.cells #[.int .i64 28] 3)
  have c1 := (Boxed.new (W.alloc (.cells #[.func (.yield l) #[] #[]] 66)) 24 (.slice ao n cap)).alloc (.cells #[.int .i64 28] 3)
  have c2 := Boxed.new ((W.alloc (.cells #[.func (.yield l) #[] #[]] 66)).alloc (.cells #[.slice ao n cap] 24)) 3 (.int .i64 28)
  have lB0 := ((cl.alloc (.cells #[.func (.yield l) #[] #[]] 66)).alloc (.cells #[.slice ao n cap] 24)).alloc (.cells #[.int .i64 28] 3)
  have hb2 : Below W.heap.size W (((W.alloc (.cells #[.func (.yield l) #[] #[]] 66)).alloc (.cells #[.slice ao n cap] 24)).alloc (.cells #[.int .i64 28] 3)) := (((Below.refl _ W).alloc (Nat.le_refl _) _).alloc (by simp) _).alloc (by simp; omega) _
  simp only [World.size_alloc] at c1 c2
  have hsz : (((W.alloc (.cells #[.func (.yield l) #[] #[]] 66)).alloc (.cells #[.slice ao n cap] 24)).alloc (.cells #[.int .i64 28] 3)).heap.size = W.heap.size + 3 := by simp
  generalize ((W.alloc (.cells #[.func (.yield l) #[] #[]] 66)).alloc (.cells #[.slice ao n cap] 24)).alloc (.cells #[.int .i64 28] 3) = WA at yB0 c1 c2 lB0 hb2 hsz ⊢
  have hJ0 : J 0 WA := OwnFrom.still hJ h0 hb2
  have hlow0 := hw.still hws hb2
  have hJA : OwnFrom WA.heap.size J := OwnFrom.more hJ (by omega)
  have hJxA : OwnFrom WA.heap.size Jx := OwnFrom.more hJx (by omega)
  refine wpIn_range (n := 9) (gf := 56) (lb := #[.pointer (some ⟨W.heap.size + 1, 0, none⟩), .pointer (some ⟨W.heap.size + 1 + 1, 0, none⟩)]) rfl (enters_of Try.func56 (by kernel_rfl) rfl)
    (parts_seq (W.heap.size + 1) (W.heap.size + 1 + 1) 28 B n cap ao xs w WA hr hcap hcap2 (by omega) (by omega) (by omega) hB1 (by omega) hBk (fun k o => k ≠ l ∧ M k o) ⟨by omega, hM _ _ (by omega) (by decide)⟩ c1 c2) (Below.refl _ _)
    (fun k o hk hc => ⟨by omega, hM k o (by omega) (notE_of_not hc)⟩) (fun _ => rfl)
    (fun k W' => (J k W' ∧ Boxed W' W.heap.size 66 (.func (.yield l) #[] #[])) ∧ (Boxed W' bl 2 (.int .i64 ((B : Int) - 1)) ∧ (Low w W' ∧ w.heap.size ≤ W'.heap.size)))
    (fun c k W' => c = .ret ∧ Jx k W')
    (OwnFrom.and (OwnFrom.and hJA (own_boxed _ _ _ _)) (OwnFrom.and (own_boxed _ _ _ _) (own_low (by omega))))
    (fun c s A Bw row h hg hrw => ⟨h.1, hJxA s A Bw row h.2 hg hrw⟩)
    ⟨⟨hJ0, yB0⟩, lB0, hlow0, by omega⟩
    (fun k x a' _ => a' = { tmps := #[.func (.yield l) #[] #[], .pointer (some ⟨bd, 0, none⟩), .pointer (some ⟨bl, 0, none⟩), .pointer (some ⟨W.heap.size, 0, none⟩), .int .i64 (x.1 : Int), .slice x.2.1 x.2.2.1 x.2.2.2, .slice ao n cap, .func (.func 56) #[] #[.pointer (some ⟨W.heap.size + 1, 0, none⟩), .pointer (some ⟨W.heap.size + 1 + 1, 0, none⟩)], .int .i64 (x.1 : Int), .slice x.2.1 x.2.2.1 x.2.2.2, undef, undef, undef, undef, undef, undef, undef, undef, undef], defers := [] })
    (fun _ _ _ _ _ _ _ hs _ _ => hs)
    ?assign ?body ?done ?stop
  case assign =>
    rintro l2 k x W1 K hk hx hI hK
    dsimp only [partEnc]
    gi_wp2
    exact hK _ _ (Keeps.refl _) hI rfl
  case body =>
    rintro l2 k ⟨k', a, m, c⟩ a' W1 hl2 hk ⟨rfl, hrp, hmc, hc9⟩ ⟨⟨hJ1, yB⟩, lB, hlow, hls⟩ rfl
    dsimp only at hrp hmc hc9 hk ⊢
    have hmx : Try.prog.follows .mixedOrders = true := by kernel_rfl
    have hpl : (partOf xs k').length = m := hrp.len
    have hrd1 := hlow.rd hrp
    change Rd W1 a m (partOf xs k') at hrd1
    have hhd := head_is xs k'
    rw [hlen, hB] at hhd
    have hhb := head_bytes (k := k') hb (by omega) (by omega)
    have hpl28 : (partOf xs k').length ≤ 28 := by rw [part_len]; omega
    have hnb := fun W2 h => newBlock_any k' (decide (k' + 1 = B)) a c (partOf xs k') W2 h (by omega) hpl28 (by rw [hhd]; exact hhb)
    rw [hhd, hpl] at hnb
    change ∀ W2, _ → Calls _ _ _ _ (fun e w' => e = .returned (blkVal (blockOf xs k')) ∧ Below W2.heap.size W2 w') at hnb
    have HY := Lib.hid (fun W2 h => hY k' (blockOf xs k') W2 hk rfl h)
    obtain ⟨V, hV⟩ : ∃ V, blkVal (blockOf xs k') = V := ⟨_, rfl⟩
    unfold blkEnc at HY
    rw [hV] at hnb HY
    obtain ⟨q, hq⟩ : ∃ q, decide (k' + 1 = B) = q := ⟨_, rfl⟩
    rw [hq] at hnb
    have hqe : ((k' : Int) == (B : Int) - 1) = q := by rw [← hq]; by_cases h : k' + 1 = B <;> simp [h] <;> omega
    have HNB := Lib.hid hnb
    have RD := Lib.hid hrd1
    have hd3 := yB.cell
    have hdl := lB.cell
    have HJ1 := Lib.hid hJ1
    have HLOW := Lib.hid (And.intro hlow hls)
    have HYB := Lib.hid yB; have HLB := Lib.hid lB
    clear hnb hhd hhb hpl28 hV hq hrd1 hrp hpl hJ1 hlow hls hmc hc9 yB lB
    gi_wp2
    refine wpIn_region_any (by assumption) (wpAnyIn_inv (fun listed a' w' => listed.size = 9 ∧ ∃ v0 v1 v2 v3 v4 v5 v6 v7 v8 : Value, a' = ⟨#[.func (.yield l) #[] #[], .pointer (some ⟨bd, 0, none⟩), .pointer (some ⟨bl, 0, none⟩), .pointer (some ⟨W.heap.size, 0, none⟩), .int .i64 (k' : Int), .slice a m c, .slice ao n cap, .func (.func 56) #[] #[.pointer (some ⟨W.heap.size + 1, 0, none⟩), .pointer (some ⟨W.heap.size + 1 + 1, 0, none⟩)], .int .i64 (k' : Int), .slice a m c, v0, v1, v2, v3, v4, v5, v6, v7, v8], []⟩ ∧ (PB W1 w' (fl listed) (.func (.yield l) #[] #[]) (.int .i64 (k' : Int)) (.slice a m c) (.int .i64 ((B : Int) - 1)) (.bool q) V v0 v1 v2 v3 v4 v5 v6 ∨ (∀ i, i < 8 → fl listed i = true) ∧ ∃ v, v7 = .bool v ∧ (Keeps (fun k o => k ≠ l ∧ M k o) W1 w' ∧ ((v = true ∧ J (k' + 1) w') ∨ (v = false ∧ Jx (k' + 1) w'))) ∧ (fl listed 8 = true → v8 = .bool (!v)))) ?_ ?_ _ _ _ _ (by decide) ?_)
    · rintro listed a' w' ⟨hsz9, v0, v1, v2, v3, v4, v5, v6, v7, v8, rfl, h⟩ i hi K hK
      obtain ⟨hi1, ho, ha⟩ := ready_mem hi
      clear hi
      have hi2 : i < 9 := hi1
      clear hi1
      rcases h with h | ⟨hall, v, rfl, hph, -⟩
      · have hc : i = 0 ∨ i = 1 ∨ i = 2 ∨ i = 3 ∨ i = 4 ∨ i = 5 ∨ i = 6 ∨ i = 7 ∨ i = 8 := by omega
        rcases hc with rfl | rfl | rfl | rfl | rfl | rfl | rfl | rfl | rfl
        · clear ha
          refine wpOpIn_of rfl rfl ?_
          have hd3' := (boxed_below HYB.out h.bel).cell
          gi_wp2
          exact ⟨by rw [Array.size_setIfInBounds]; exact hsz9, _, _, _, _, _, _, _, _, _, rfl, .inl (by rw [fl_upd ho]; exact h.s0)⟩
        · clear ha
          refine wpOpIn_of rfl rfl ?_
          gi_wp2
          exact ⟨by rw [Array.size_setIfInBounds]; exact hsz9, _, _, _, _, _, _, _, _, _, rfl, .inl (by rw [fl_upd ho]; exact h.s1)⟩
        · clear ha
          refine wpOpIn_of rfl rfl ?_
          gi_wp2
          exact ⟨by rw [Array.size_setIfInBounds]; exact hsz9, _, _, _, _, _, _, _, _, _, rfl, .inl (by rw [fl_upd ho]; exact h.s2)⟩
        · clear ha
          refine wpOpIn_of rfl rfl ?_
          gi_wp2
          exact ⟨by rw [Array.size_setIfInBounds]; exact hsz9, _, _, _, _, _, _, _, _, _, rfl, .inl (by rw [fl_upd ho]; exact h.s3)⟩
        · clear ha
          refine wpOpIn_of rfl rfl ?_
          have hdl' := (boxed_below HLB.out h.bel).cell
          gi_wp2
          exact ⟨by rw [Array.size_setIfInBounds]; exact hsz9, _, _, _, _, _, _, _, _, _, rfl, .inl (by rw [fl_upd ho]; exact h.s4)⟩
        · have d3 : fl listed 3 = true := (by simp [Region.binds] at ha; first | exact ha | exact ha.1 | exact ha.2 | exact ha.1.1 | exact ha.1.2 | exact ha.2.1 | exact ha.2.2)
          have d4 : fl listed 4 = true := (by simp [Region.binds] at ha; first | exact ha | exact ha.1 | exact ha.2 | exact ha.1.1 | exact ha.1.2 | exact ha.2.1 | exact ha.2.2)
          clear ha
          refine wpOpIn_of rfl rfl ?_
          obtain rfl := h.f3 d3
          obtain rfl := h.f4 d4
          gi_wp2
          exact ⟨by rw [Array.size_setIfInBounds]; exact hsz9, _, _, _, _, _, _, _, _, _, rfl, .inl (by rw [fl_upd ho]; exact h.s5 d3 d4)⟩
        · have d1 : fl listed 1 = true := (by simp [Region.binds] at ha; first | exact ha | exact ha.1 | exact ha.2 | exact ha.1.1 | exact ha.1.2 | exact ha.2.1 | exact ha.2.2)
          have d2 : fl listed 2 = true := (by simp [Region.binds] at ha; first | exact ha | exact ha.1 | exact ha.2 | exact ha.1.1 | exact ha.1.2 | exact ha.2.1 | exact ha.2.2)
          have d5 : fl listed 5 = true := (by simp [Region.binds] at ha; first | exact ha | exact ha.1 | exact ha.2 | exact ha.1.1 | exact ha.1.2 | exact ha.2.1 | exact ha.2.2)
          clear ha
          refine wpOpIn_of rfl rfl ?_
          obtain rfl := h.f1 d1
          obtain rfl := h.f2 d2
          obtain rfl := h.f5 d5
          have RD2 := RD.out.below h.bel
          gi_wp2
          refine ⟨trivial, ?_⟩
          refine (CallsIn.inRound l2 (callsIn_wide.2 (HNB.out _ RD2))).mono ?_
          rintro e w2 ⟨rfl, b2⟩
          gi_wp2
          exact ⟨by rw [Array.size_setIfInBounds]; exact hsz9, _, _, _, _, _, _, _, _, _, rfl, .inl (by rw [fl_upd ho]; exact (h.world b2).s6 d1 d2 d5)⟩
        · have d0 : fl listed 0 = true := (by simp [Region.binds] at ha; first | exact ha | exact ha.1 | exact ha.2 | exact ha.1.1 | exact ha.1.2 | exact ha.2.1 | exact ha.2.2)
          have d6 : fl listed 6 = true := (by simp [Region.binds] at ha; first | exact ha | exact ha.1 | exact ha.2 | exact ha.1.1 | exact ha.1.2 | exact ha.2.1 | exact ha.2.2)
          clear ha
          refine wpOpIn_of rfl rfl ?_
          obtain rfl := h.f0 d0
          obtain rfl := h.f6 d6
          have hJ2 := OwnFrom.still hJ HJ1.out h.bel
          obtain ⟨fn, tmps, assign, body, hy, hR⟩ := HY.out w' hJ2
          gi_wp2
          refine (round_any l2 hR).mono ?_
          rintro e W3 ⟨hkp, hv⟩
          obtain ⟨v, rfl, hph⟩ : ∃ v : Bool, e = .returned (.bool v) ∧ ((v = true ∧ J (k' + 1) W3) ∨ (v = false ∧ Jx (k' + 1) W3)) := by
            rcases hv with ⟨rfl, h1⟩ | ⟨rfl, h1⟩
            · exact ⟨true, rfl, .inl ⟨rfl, h1⟩⟩
            · exact ⟨false, rfl, .inr ⟨rfl, h1⟩⟩
          clear hv
          gi_wp2
          exact ⟨by rw [Array.size_setIfInBounds]; exact hsz9, _, _, _, _, _, _, _, _, _, rfl, .inr ⟨fun j hj => by rw [fl_upd ho]; unfold upd; exact done_all h d0 d6 j hj, v, rfl, ⟨(Keeps.still h.bel).trans hkp, hph⟩, fun h8 => by rw [fl_upd ho] at h8; simp [upd, h.n8] at h8⟩⟩
        · have d7 : fl listed 7 = true := (by simp [Region.binds] at ha; exact ha)
          rw [h.n7] at d7
          cases d7
      · have hi8 : i = 8 := by
          by_cases h8 : i < 8
          · have := hall i h8; rw [fl_no ho] at this; cases this
          · omega
        subst hi8
        clear ha
        refine wpOpIn_of rfl rfl ?_
        gi_wp2
        exact ⟨by rw [Array.size_setIfInBounds]; exact hsz9, _, _, _, _, _, _, _, _, _, rfl, .inr ⟨fun j hj => by rw [fl_upd ho]; unfold upd; split; rfl; exact hall j hj, v, rfl, hph, fun _ => rfl⟩⟩
    · rintro listed a' w' ⟨hsz9, v0, v1, v2, v3, v4, v5, v6, v7, v8, rfl, h⟩ hnil
      have hall := ready_nil (by kernel_rfl) hsz9 hnil
      rcases h with h | ⟨-, v, rfl, ⟨hkp, hph⟩, h8⟩
      · have h7 := hall 7 (by decide); rw [h.n7] at h7; cases h7
      · have h88 := h8 (hall 8 (by decide))
        subst h88
        clear hall hnil h8
        rcases hph with ⟨rfl, hJ3⟩ | ⟨rfl, hJ3⟩
        · gi_wp2
          exact ⟨hkp, ⟨hJ3, hkp.boxed HYB.out ⟨by omega, hM _ _ (Nat.le_refl _) rfl⟩⟩, hkp.boxed HLB.out ⟨hbl, hMl⟩, HLOW.out.1.keeps hkp (fun i o hi => ⟨by omega, hMw i o hi⟩), Nat.le_trans HLOW.out.2 hkp.size⟩
        · gi_wp2
          exact ⟨hkp, rfl, hJ3⟩
    · exact ⟨by simp, _, _, _, _, _, _, _, _, _, rfl, .inl ⟨fl_none _ _, fl_none _ _, (Below.refl _ _).drew, (fun h => by rw [fl_none] at h; cases h), (fun h => by rw [fl_none] at h; cases h), (fun h => by rw [fl_none] at h; cases h), (fun h => by rw [fl_none] at h; cases h), (fun h => by rw [fl_none] at h; cases h), (fun h => by rw [fl_none] at h; cases h), (fun h => by rw [fl_none] at h; cases h), (fun h => by rw [fl_none] at h; cases h), (fun h => by rw [fl_none] at h; cases h)⟩⟩
  case done =>
    rintro D W' hD ⟨⟨hJ1, -⟩, -⟩ hK
    gi_wp2
    refine ⟨by simp, .inl ⟨_, _, rfl, run_takeDeferred hK, ?_⟩⟩
    exact ⟨_, results_none rfl _ _ _, ⟨_, rfl⟩, .inl (hJ.putObj _ hJ1 (by omega) hK rfl)⟩
  case stop =>
    rintro D c k W' hD h1 h2 ⟨rfl, hx⟩ hK
    gi_wp2
    refine ⟨by simp, .inl ⟨_, _, rfl, run_takeDeferred hK, ?_⟩⟩
    exact ⟨_, results_none rfl _ _ _, ⟨_, rfl⟩, .inr ⟨k, h1, h2, hJx.putObj _ hx (by omega) hK rfl⟩⟩
end Go.Proofs.Ytckaknaeddiphaa
