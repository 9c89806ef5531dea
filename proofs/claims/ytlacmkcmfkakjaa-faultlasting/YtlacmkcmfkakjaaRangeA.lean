/-
  A range over a function whose loop's variables are laid anew in each round.
-/
import Derived.Test.YtlacmkcmfkakjaaRange
namespace Go.Proofs.Ytlacmkcmfkakjaa
open Go.RowKit

theorem rangeA {P : Program} {g : Operand} {ps : Array Tmp} {assign body : Code} {Q : Exit → Act → World → Prop} {a : Act} {w : World} {n : Nat}
    {gf : Nat} {lb : Array Value} (hg : a.eval g = .func (.func gf) #[] lb) (eg : ∀ args w, (callFunc gf args).run P w = .ok (.enter gf args) w)
    {enc : Nat → Array Value} {N : Nat} {p T : Nat → Prop} (hseq : SeqC P gf lb enc N p T w) (hps : ∀ x, (enc x).size = ps.size)
    (M : Nat → Prop) (hM : ∀ b, M b → b < w.heap.size ∧ ¬ T b) (hT : ∀ b, T b → b < w.heap.size) (I : Nat → World → Prop) (Ix : Code → Nat → World → Prop) (hI : Abide w.heap.size I) (hIx : ∀ c, Abide w.heap.size (Ix c)) (h0 : I 0 w)
    (hskip : ∀ x W, x < N → ¬ p x → I x W → I (x + 1) W)
    (hround : ∀ (l x : Nat) (W : World), x < N → p x → I x W →
      assign.wpIn (Fence.wide.inRound l) 8 P (Exit.then (fun a' W1 => Keep M W W1 ∧ ∀ W2, Stay w.heap.size W1 W2 → W2.heap.size = W1.heap.size → body.wpIn (Fence.wide.inRound l) 8 P (postC M I Ix x W2) a' W2) (fun _ _ _ => False)) { tmps := (ps.zip (enc x)).foldl (fun t (p, v) => t.setIfInBounds p v) a.tmps, defers := [] } W)
    (hdone : ∀ (D : Nat) (W : World), w.heap.size ≤ D → I N W → W.heap[D]? = some (.deferred (some [])) → Q .normal { a with defers := { target := .collected D, args := #[] } :: a.defers } W)
    (hstop : ∀ (D : Nat) (c : Code) (x : Nat) (W : World), w.heap.size ≤ D → x < N → p x → Ix c x W → W.heap[D]? = some (.deferred (some [])) → c.wpIn Fence.wide n P Q { a with defers := { target := .collected D, args := #[] } :: a.defers } W) :
    (Code.rangeFunc g ps assign body).wpIn Fence.wide n P Q a w := by
  refine wpIn_rangeFunc fun fn hfn => ?_
  -- the record, by its state and what is pending; where the iterator begins
  obtain ⟨R, hR⟩ : ∃ R : LoopState → Option Code → Obj, R = fun st pe => Obj.loop { state := st, pending := pe, fn, tmps := a.tmps, params := ps, assign, body, defers := w.heap.size } := ⟨_, rfl⟩
  have hcR : ∀ st pe, (R st pe).isCells = false := fun st pe => by rw [hR]; rfl
  have r1 : (w.alloc (.deferred (some []))).heap.size = w.heap.size + 1 := by simp
  obtain ⟨V, hV⟩ : ∃ V, V = (w.alloc (.deferred (some []))).alloc (R .ready none) := ⟨_, rfl⟩
  have sV : V.heap.size = w.heap.size + 2 := by rw [hV]; simp
  have st0 : Stay w.heap.size w V := by rw [hV]; exact (Stay.alloc _ w _ (Nat.le_refl _)).trans (Stay.alloc _ _ _ (by rw [r1]; omega))
  have bV : Below w.heap.size w V := below_stay (Below.refl _ _) st0 (Nat.le_refl _)
  have lV : V.heap[w.heap.size + 1]? = some (R .ready none) := by rw [hV, ← r1]; exact World.alloc_heap_new _ _
  have dV : V.heap[w.heap.size]? = some (.deferred (some [])) := by rw [hV]; exact (Below.heap_alloc _ _ _ (by rw [r1]; omega)).trans (World.alloc_heap_new w _)
  refine ⟨w.heap.size + 1, [{ target := .collected w.heap.size, args := #[] }], V, { target := .fn (.func gf) lb, args := #[.func (.yield (w.heap.size + 1)) #[] #[]] }, V, gf,
    #[.func (.yield (w.heap.size + 1)) #[] #[]] ++ lb, V, ?_, ?_, fun _ _ => trivial, ?_, (fun h => by cases h), ?_⟩
  · rw [hV, hR]; exact run_enterLoop_outer _ _ _ _ _
  · simp only [resolve, hg]; simp [go_sem]
  · simp [invoke, go_sem, eg]
  -- the books: the record and the block for deferred calls, beside the caller's word
  have books : ∀ (X : Nat → World → Prop) (o : Obj), o.isCells = false → Abide w.heap.size X → Abide V.heap.size (fun x W => X x W ∧ W.heap[w.heap.size + 1]? = some o ∧ W.heap[w.heap.size]? = some (.deferred (some []))) := by
    rintro X o _ hX x A B ⟨hx, hl, hd⟩ hs
    exact ⟨hX x A B hx (hs.mono (by omega)), (hs.low _ (by omega)).trans hl, (hs.low _ (by omega)).trans hd⟩
  have hcall := hseq (w.heap.size + 1) (fun b => M b ∨ b = w.heap.size + 1)
    (fun x W => I x W ∧ W.heap[w.heap.size + 1]? = some (R .ready none) ∧ W.heap[w.heap.size]? = some (.deferred (some [])))
    (fun x W => ∃ c, Ix c x W ∧ W.heap[w.heap.size + 1]? = some (R .done (some c)) ∧ W.heap[w.heap.size]? = some (.deferred (some [])))
    V bV (by rintro b (hb | rfl); · exact ⟨by have := (hM b hb).1; omega, (hM b hb).2⟩
             · exact ⟨by omega, fun h => by have := hT _ h; omega⟩)
    (books I _ (hcR _ _) hI)
    (by rintro x A B ⟨c, hc⟩ hs; exact ⟨c, books (Ix c) _ (hcR _ _) (hIx c) x A B hc hs⟩)
    (by rintro x W1 hx hp ⟨hi, hl, hd⟩; exact ⟨hskip x W1 hx hp hi, hl, hd⟩)
    (by
      rintro x W hx hp ⟨hi, hl, hd⟩
      have hlt : w.heap.size + 1 < W.heap.size := (Array.getElem?_eq_some_iff.1 hl).1
      have hl' := hl
      rw [hR] at hl'
      refine ⟨fn, _, assign, body, run_yield (P := P) (args := enc x) hl' (hps x), roundIn_of_wpIn hfn ?_⟩
      refine wpIn_mono (hround (w.heap.size + 1) x W hx hp hi) ?_
      rintro e1 a' W1 he1
      have hn : e1 = .normal ∧ Keep M W W1 ∧ ∀ W2, Stay w.heap.size W1 W2 → W2.heap.size = W1.heap.size → body.wpIn (Fence.wide.inRound (w.heap.size + 1)) 8 P (postC M I Ix x W2) a' W2 := by
        cases e1 with
        | normal => exact ⟨rfl, he1.1, he1.2⟩
        | _ => exact he1.elim
      obtain ⟨rfl, k1, hb⟩ := hn
      have l1 : W1.heap[w.heap.size + 1]? = some (R .ready none) := (k1.2 _ hlt (fun h => by have := (hM _ h).1; omega)).trans hl
      have d1 : W1.heap[w.heap.size]? = some (.deferred (some [])) := (k1.2 _ (by omega) (fun h => by have := (hM _ h).1; omega)).trans hd
      have hlt1 : w.heap.size + 1 < W1.heap.size := (Array.getElem?_eq_some_iff.1 l1).1
      have l1' := l1
      rw [hR] at l1'
      -- the record is busy
      obtain ⟨W2, hW2⟩ : ∃ W2, W2 = W1.putObj (w.heap.size + 1) (R .busy none) := ⟨_, rfl⟩
      have sW2 : Stay w.heap.size W1 W2 := by rw [hW2]; exact Stay.putObj _ l1 (hcR _ _) (by omega)
      have zW2 : W2.heap.size = W1.heap.size := by rw [hW2]; simp
      have kW2 : Keep (fun b => M b ∨ b = w.heap.size + 1) W W2 := by rw [hW2]; exact (k1.mono fun _ h => .inl h).putObj (.inr rfl) _
      have lW2 : W2.heap[w.heap.size + 1]? = some (R .busy none) := by rw [hW2]; exact World.putObj_heap_same hlt1
      have dW2 : W2.heap[w.heap.size]? = some (.deferred (some [])) := by rw [hW2]; exact (World.putObj_heap_other (by omega)).trans d1
      have e2 : W1.putObj (w.heap.size + 1) (.loop { state := .busy, pending := none, fn, tmps := a.tmps, params := ps, assign, body, defers := w.heap.size }) = W2 := by rw [hW2, hR]
      -- a round's end
      have fin : ∀ (j : Option Code) (W3 : World), Keep M W2 W3 → ∃ W4, (Instr.endRound (w.heap.size + 1) j).run P W3 = .ok (.bool j.isNone) W4 ∧ Stay w.heap.size W3 W4 ∧ Keep (fun b => M b ∨ b = w.heap.size + 1) W W4 ∧
          W4.heap[w.heap.size + 1]? = some (R (if j.isNone then .ready else .done) j) ∧ W4.heap[w.heap.size]? = some (.deferred (some [])) := by
        intro j W3 k3
        have h2 : w.heap.size + 1 < W2.heap.size := (Array.getElem?_eq_some_iff.1 lW2).1
        have l3 : W3.heap[w.heap.size + 1]? = some (R .busy none) := (k3.2 _ h2 (fun h => by have := (hM _ h).1; omega)).trans lW2
        have d3 : W3.heap[w.heap.size]? = some (.deferred (some [])) := (k3.2 _ (by omega) (fun h => by have := (hM _ h).1; omega)).trans dW2
        have l3' := l3
        rw [hR] at l3'
        refine ⟨_, run_endRound (P := P) j l3', Stay.putObj _ l3 (hcR _ _) (by omega), (kW2.trans (k3.mono fun _ h => .inl h)).putObj (.inr rfl) _, ?_, (World.putObj_heap_other (by omega)).trans d3⟩
        rw [World.putObj_heap_same (Array.getElem?_eq_some_iff.1 l3).1, hR]
      refine ⟨W2, ?_, wpIn_mono (hb W2 sW2 zW2) ?_⟩
      · rw [← e2]; exact run_beginRound l1' rfl
      rintro e a3 W3 hpost
      cases e with
      | normal =>
        obtain ⟨W4, hr, s4, k4, l4, d4⟩ := fin none W3 hpost.1
        exact ⟨_, _, hr, .inl ⟨rfl, ⟨hI _ _ _ hpost.2 s4, l4, d4⟩, k4⟩⟩
      | ret =>
        obtain ⟨W4, hr, s4, k4, l4, d4⟩ := fin (some .ret) W3 hpost.1
        exact ⟨_, _, hr, .inr ⟨rfl, ⟨_, hIx _ _ _ _ hpost.2 s4, l4, d4⟩, k4⟩⟩
      | exit id =>
        obtain ⟨W4, hr, s4, k4, l4, d4⟩ := fin (some (.exit id)) W3 hpost.1
        exact ⟨_, _, hr, .inr ⟨rfl, ⟨_, hIx _ _ _ _ hpost.2 s4, l4, d4⟩, k4⟩⟩
      | goto t =>
        obtain ⟨W4, hr, s4, k4, l4, d4⟩ := fin (some (.goto t)) W3 hpost.1
        exact ⟨_, _, hr, .inr ⟨rfl, ⟨_, hIx _ _ _ _ hpost.2 s4, l4, d4⟩, k4⟩⟩
      | panic ch => exact hpost.elim
      | outgrown => exact hpost.elim)
    ⟨hI _ _ _ h0 st0, lV, dV⟩
  refine (callsIn_wide.2 (callsIn_wide.1 hcall)).mono ?_
  -- behind the iterator
  rintro e W ⟨⟨v, rfl⟩, (⟨hi, hl, hd⟩ | ⟨x, hx, hp, c, hi, hl, hd⟩)⟩
  · have hl' := hl
    rw [hR] at hl'
    exact ⟨none, _, run_endLoop (P := P) hl' (by simp), hdone _ _ (Nat.le_refl _) (hI _ _ _ hi (Stay.putObj _ hl (hcR _ _) (by omega))) ((World.putObj_heap_other (by omega)).trans hd)⟩
  · have hl' := hl
    rw [hR] at hl'
    exact ⟨some c, _, run_endLoop (P := P) hl' (by simp), hstop _ c x _ (Nat.le_refl _) hx hp (hIx _ _ _ _ hi (Stay.putObj _ hl (hcR _ _) (by omega))) ((World.putObj_heap_other (by omega)).trans hd)⟩

end Go.Proofs.Ytlacmkcmfkakjaa
