/-
  A range over a function, as this project meets it: an iterator goes with a cursor over the numbers below N and hands on those that fit; it may itself range over another one. What the loop's body must keep is all that is not the caller's own; what the iterator may turn is what it laid itself.
-/
import Derived.RangeFuncNested
import Derived.RangeFuncBound
import Derived.RangeFuncCalls
import Derived.RangeFuncLeaves
import Derived.WalkKit
import Derived.WalkLawsBesides
namespace Go.Proofs.Ytcpjmfemgdgplaa
open Go.RowKit

/-- what lay below B lies; all cells lie; all else may have turned, and more may have come -/
structure Stay (B : Nat) (W W' : World) : Prop where
  os : W'.os = W.os
  tape : W'.tape = W.tape
  output : W'.output = W.output
  size : W.heap.size ≤ W'.heap.size
  cells : ∀ (b : Nat) (o : Obj), W.heap[b]? = some o → o.isCells = true → W'.heap[b]? = some o
  low : ∀ b, b < B → W'.heap[b]? = W.heap[b]?
theorem Stay.mono {B B' : Nat} {W W' : World} (h : Stay B W W') (hB : B' ≤ B) : Stay B' W W' := ⟨h.os, h.tape, h.output, h.size, h.cells, fun b hb => h.low b (by omega)⟩
theorem Stay.trans {B : Nat} {X Y Z : World} (h : Stay B X Y) (k : Stay B Y Z) : Stay B X Z :=
  ⟨k.os.trans h.os, k.tape.trans h.tape, k.output.trans h.output, Nat.le_trans h.size k.size, fun b o hb ho => k.cells b o (h.cells b o hb ho) ho, fun b hb => (k.low b hb).trans (h.low b hb)⟩
theorem Stay.refl (B : Nat) (W : World) : Stay B W W := ⟨rfl, rfl, rfl, Nat.le_refl _, fun _ _ h _ => h, fun _ _ => rfl⟩
theorem Stay.alloc (B : Nat) (W : World) (o : Obj) (hB : B ≤ W.heap.size) : Stay B W (W.alloc o) :=
  ⟨rfl, rfl, rfl, by simp, fun b o' hb _ => (Below.heap_alloc W o b (Array.getElem?_eq_some_iff.1 hb).1).trans hb, fun b hb => Below.heap_alloc W o b (by omega)⟩
theorem Stay.drewN (B : Nat) (W : World) (k : Nat) : Stay B W (W.drewN k) := ⟨rfl, rfl, rfl, Nat.le_refl _, fun _ _ h _ => h, fun _ _ => rfl⟩
theorem Stay.putObj {B : Nat} {W : World} {l : Nat} {o : Obj} (o' : Obj) (hl : W.heap[l]? = some o) (ho : o.isCells = false) (hB : B ≤ l) : Stay B W (W.putObj l o') :=
  ⟨rfl, rfl, rfl, by simp, fun b x hb hx => (World.putObj_heap_other (by intro e; subst e; rw [hl] at hb; cases hb; rw [ho] at hx; cases hx)).trans hb, fun b hb => World.putObj_heap_other (by omega)⟩
theorem below_stay {B C : Nat} {w W W' : World} (h : Below C w W) (k : Stay B W W') (hB : C ≤ B) : Below C w W' :=
  ⟨k.os.trans h.os, k.tape.trans h.tape, k.output.trans h.output, Nat.le_trans h.size k.size, fun b hb => (k.low b (by omega)).trans (h.block b hb)⟩
theorem isCells_of_cell {W : World} {b o : Nat} {v : Value} (h : W.cell? ⟨b, o, none⟩ = some v) : ∃ x, W.heap[b]? = some x ∧ x.isCells = true := by
  cases hb : W.heap[b]? with
  | none => simp [World.cell?, hb] at h
  | some x =>
    refine ⟨x, rfl, ?_⟩
    cases x <;> simp [World.cell?, hb] at h <;> rfl
theorem Stay.cell {B : Nat} {W W' : World} (k : Stay B W W') {b o : Nat} {v : Value} (h : W.cell? ⟨b, o, none⟩ = some v) : W'.cell? ⟨b, o, none⟩ = some v := by
  obtain ⟨x, hx, hc⟩ := isCells_of_cell h
  rw [← h]
  exact World.cell?_of_block (w := W) ((k.cells b x hx hc).trans hx.symm)
/-- a variable's box: it holds v and may be written -/
def Box (W : World) (b : Nat) (v : Value) : Prop := W.cell? ⟨b, 0, none⟩ = some v ∧ W.frozen? ⟨b, 0, none⟩ = false
theorem Box.lt {W : World} {b : Nat} {v : Value} (h : Box W b v) : b < W.heap.size := by
  obtain ⟨x, hx, _⟩ := isCells_of_cell h.1
  exact (Array.getElem?_eq_some_iff.1 hx).1
theorem Box.of {W W' : World} {b : Nat} {v : Value} (h : Box W b v) (k : W'.heap[b]? = W.heap[b]?) : Box W' b v :=
  ⟨(World.cell?_of_block (w := W) k).trans h.1, (World.frozen?_of_block (w := W) k).trans h.2⟩
theorem Box.stay {B : Nat} {W W' : World} (k : Stay B W W') {b : Nat} {v : Value} (h : Box W b v) : Box W' b v := by
  obtain ⟨x, hx, hc⟩ := isCells_of_cell h.1
  exact h.of ((k.cells b x hx hc).trans hx.symm)
theorem Box.new (W : World) (t : TypeId) (v : Value) : Box (W.alloc (.cells #[v] t)) W.heap.size v :=
  ⟨(Boxed.new W t v).cell, (Boxed.new W t v).frozen⟩
theorem Box.alloc {W : World} {b : Nat} {v : Value} (h : Box W b v) (o : Obj) : Box (W.alloc o) b v := h.of (Below.heap_alloc W o b h.lt)
theorem Box.drewN {W : World} {b : Nat} {v : Value} (h : Box W b v) (k : Nat) : Box (W.drewN k) b v := h
theorem Box.set {W : World} {b : Nat} {v : Value} (h : Box W b v) (u : Value) : Box (W.setCell ⟨b, 0, none⟩ u) b u :=
  ⟨World.cell?_setCell_same' _ _ _ (by rw [h.1]; rfl), by rw [World.frozen?_setCell]; exact h.2⟩
theorem Box.other {W : World} {b c : Nat} {v : Value} (h : Box W b v) (hne : b ≠ c) (u : Value) : Box (W.setCell ⟨c, 0, none⟩ u) b v :=
  h.of (Below.heap_setCell W _ u b hne)
theorem Box.below {C : Nat} {W W' : World} {b : Nat} {v : Value} (h : Box W b v) (k : Below C W W') (hb : b < C) : Box W' b v := h.of (k.block b hb)

/-- all that is not M's lies as it lay -/
def Keep (M : Nat → Prop) (W W' : World) : Prop := W.heap.size ≤ W'.heap.size ∧ ∀ b, b < W.heap.size → ¬ M b → W'.heap[b]? = W.heap[b]?
theorem Keep.refl (M : Nat → Prop) (W : World) : Keep M W W := ⟨Nat.le_refl _, fun _ _ _ => rfl⟩
theorem Keep.trans {M : Nat → Prop} {X Y Z : World} (h : Keep M X Y) (k : Keep M Y Z) : Keep M X Z :=
  ⟨Nat.le_trans h.1 k.1, fun b hb hm => (k.2 b (Nat.lt_of_lt_of_le hb h.1) hm).trans (h.2 b hb hm)⟩
theorem Keep.mono {M M' : Nat → Prop} {X Y : World} (h : Keep M X Y) (k : ∀ b, M b → M' b) : Keep M' X Y := ⟨h.1, fun b hb hm => h.2 b hb fun e => hm (k b e)⟩
theorem Keep.alloc {M : Nat → Prop} {X Y : World} (h : Keep M X Y) (o : Obj) : Keep M X (Y.alloc o) :=
  h.trans ⟨by simp, fun b hb _ => Below.heap_alloc Y o b hb⟩
theorem Keep.drewN {M : Nat → Prop} {X Y : World} (h : Keep M X Y) (k : Nat) : Keep M X (Y.drewN k) := h
theorem Keep.set {M : Nat → Prop} {X Y : World} (h : Keep M X Y) {c : Nat} (hc : M c) (u : Value) : Keep M X (Y.setCell ⟨c, 0, none⟩ u) :=
  h.trans ⟨by simp, fun b _ hm => Below.heap_setCell Y _ u b (fun e => hm (by subst e; exact hc))⟩
theorem Keep.putObj {M : Nat → Prop} {X Y : World} (h : Keep M X Y) {c : Nat} (hc : M c) (o : Obj) : Keep M X (Y.putObj c o) :=
  h.trans ⟨by simp, fun b _ hm => World.putObj_heap_other (fun e => hm (by subst e; exact hc))⟩
theorem Keep.below {M : Nat → Prop} {C : Nat} {X Y : World} (h : Below C X Y) (hC : X.heap.size ≤ C) : Keep M X Y := ⟨h.size, fun b hb _ => h.block b (by omega)⟩
theorem Keep.stay {M : Nat → Prop} {B : Nat} {X Y : World} (h : Stay B X Y) (hC : X.heap.size ≤ B) : Keep M X Y := ⟨h.size, fun b hb _ => h.low b (by omega)⟩
theorem Keep.box {M : Nat → Prop} {X Y : World} {b : Nat} {v : Value} (h : Keep M X Y) (hb : Box X b v) (hm : ¬ M b) : Box Y b v := hb.of (h.2 b hb.lt hm)

/-- J does not mind what an iterator does that was called where B blocks lay -/
def Abide (B : Nat) (J : Nat → World → Prop) : Prop := ∀ x W W', J x W → Stay B W W' → J x W'
theorem Abide.mono {B B' : Nat} {J : Nat → World → Prop} (h : Abide B J) (hB : B ≤ B') : Abide B' J := fun x W W' hj hs => h x W W' hj (hs.mono hB)

theorem yieldAt_any {P : Program} {m m' l : Nat} {args : Array Value} {W : World} {R : Ending → World → Prop} (h : YieldAt Fence.wide m P l args W R) : YieldAt Fence.wide m' P l args W R := by
  obtain ⟨fn, tmps, assign, body, hy, hf, hr⟩ := h
  exact ⟨fn, tmps, assign, body, hy, hf, fun c cs _ => hr c cs (room_wide _)⟩

/-- AN ITERATOR's CONTRACT: the function g with what it holds, lb, made in w: it hands on, of the numbers x below N, rising, those that fit (p x), as 'enc x', as far as it is asked; it reads the blocks T between two rounds. -/
def SeqC (P : Program) (g : Nat) (lb : Array Value) (enc : Nat → Array Value) (N : Nat) (p : Nat → Prop) (T : Nat → Prop) (w : World) : Prop :=
  ∀ (l : Nat) (M : Nat → Prop) (J Jx : Nat → World → Prop) (W : World), Below w.heap.size w W → (∀ b, M b → b < W.heap.size ∧ ¬ T b) → Abide W.heap.size J → Abide W.heap.size Jx →
    (∀ x W1, x < N → ¬ p x → J x W1 → J (x + 1) W1) →
    (∀ x W1, x < N → p x → J x W1 → YieldAt Fence.wide 8 P l (enc x) W1 fun e W' => (e = .returned (.bool true) ∧ J (x + 1) W' ∧ Keep M W1 W') ∨ (e = .returned (.bool false) ∧ Jx x W' ∧ Keep M W1 W')) →
    J 0 W → CallsIn Fence.wide 9 P g (#[.func (.yield l) #[] #[]] ++ lb) W fun e W' => (∃ v, e = .returned v) ∧ (J N W' ∨ ∃ x, x < N ∧ p x ∧ Jx x W')

/-- how a body may be left that met x -/
def postC (M : Nat → Prop) (I : Nat → World → Prop) (Ix : Code → Nat → World → Prop) (x : Nat) (W : World) : Exit → Act → World → Prop
  | .normal, _, W' => Keep M W W' ∧ I (x + 1) W'
  | .ret, _, W' => Keep M W W' ∧ Ix .ret x W'
  | .exit id, _, W' => Keep M W W' ∧ Ix (.exit id) x W'
  | .goto t, _, W' => Keep M W W' ∧ Ix (.goto t) x W'
  | .panic _, _, _ => False
  | .outgrown, _, _ => False

theorem rangeC {P : Program} {g : Operand} {ps : Array Tmp} {assign body : Code} {Q : Exit → Act → World → Prop} {a : Act} {w : World} {n : Nat}
    {gf : Nat} {lb : Array Value} (hg : a.eval g = .func (.func gf) #[] lb) (eg : ∀ args w, (callFunc gf args).run P w = .ok (.enter gf args) w)
    {enc : Nat → Array Value} {N : Nat} {p T : Nat → Prop} (hseq : SeqC P gf lb enc N p T w) (hps : ∀ x, (enc x).size = ps.size)
    (M : Nat → Prop) (hM : ∀ b, M b → b < w.heap.size ∧ ¬ T b) (hT : ∀ b, T b → b < w.heap.size) (I : Nat → World → Prop) (Ix : Code → Nat → World → Prop) (hI : Abide w.heap.size I) (hIx : ∀ c, Abide w.heap.size (Ix c)) (h0 : I 0 w)
    (hskip : ∀ x W, x < N → ¬ p x → I x W → I (x + 1) W)
    (hround : ∀ (l x : Nat) (W W2 : World), x < N → p x → I x W2 →
      assign.wpIn (Fence.wide.inRound l) 8 P (Exit.then (fun a' W' => W' = W ∧ body.wpIn (Fence.wide.inRound l) 8 P (postC M I Ix x W2) a' W2) (fun _ _ _ => False)) { tmps := (ps.zip (enc x)).foldl (fun t (p, v) => t.setIfInBounds p v) a.tmps, defers := [] } W)
    (hdone : ∀ (D : Nat) (W : World), w.heap.size ≤ D → I N W → W.heap[D]? = some (.deferred (some [])) → Q .normal { a with defers := { target := .collected D, args := #[] } :: a.defers } W)
    (hstop : ∀ (D : Nat) (c : Code) (x : Nat) (W : World), w.heap.size ≤ D → x < N → p x → Ix c x W → W.heap[D]? = some (.deferred (some [])) → c.wpIn Fence.wide n P Q { a with defers := { target := .collected D, args := #[] } :: a.defers } W) :
    (Code.rangeFunc g ps assign body).wpIn Fence.wide n P Q a w := by
  refine wpIn_rangeFunc fun fn hfn => ?_
  -- the record, by its state and what is pending; where the iterator begins
  obtain ⟨R, hR⟩ : ∃ R : LoopState → Option Code → Obj, R = fun st pe => Obj.loop { state := st, pending := pe, fn, tmps := a.tmps, params := ps, assign, body, defers := w.heap.size } := ⟨_, rfl⟩
  have hcR : ∀ st pe, (R st pe).isCells = false := fun st pe => by rw [hR]; rfl
  have r1 : (w.alloc (.deferred (some []))).heap.size = w.heap.size + 1 := by simp
  obtain ⟨V, hV⟩ : ∃ V, V = (w.alloc (.deferred (some []))).alloc (R .ready none) := ⟨_, rfl⟩
  have sV : V.heap.size = w.heap.size + 2 := by rw [hV]; simp
  have st0 : Stay w.heap.size w V := by rw [hV]; exact (Stay.alloc _ w _ (Nat.le_refl _)).trans (Stay.alloc _ _ _ (by rw [r1]; omega))
  have bV : Below w.heap.size w V := below_stay (Below.refl _ _) st0 (Nat.le_refl _)
  have lV : V.heap[w.heap.size + 1]? = some (R .ready none) := by rw [hV, ← r1]; exact World.alloc_heap_new _ _
  have dV : V.heap[w.heap.size]? = some (.deferred (some [])) := by rw [hV]; exact (Below.heap_alloc _ _ _ (by rw [r1]; omega)).trans (World.alloc_heap_new w _)
  refine ⟨w.heap.size + 1, [{ target := .collected w.heap.size, args := #[] }], V, { target := .fn (.func gf) lb, args := #[.func (.yield (w.heap.size + 1)) #[] #[]] }, V, gf,
    #[.func (.yield (w.heap.size + 1)) #[] #[]] ++ lb, V, ?_, ?_, fun _ _ => trivial, ?_, (fun h => by cases h), ?_⟩
  · rw [hV, hR]; exact run_enterLoop_outer _ _ _ _ _
  · simp only [resolve, hg]; simp [go_sem]
  · simp [invoke, go_sem, eg]
  -- the books: the record and the block for deferred calls, beside the caller's word
  have books : ∀ (X : Nat → World → Prop) (o : Obj), o.isCells = false → Abide w.heap.size X → Abide V.heap.size (fun x W => X x W ∧ W.heap[w.heap.size + 1]? = some o ∧ W.heap[w.heap.size]? = some (.deferred (some []))) := by
    rintro X o _ hX x A B ⟨hx, hl, hd⟩ hs
    exact ⟨hX x A B hx (hs.mono (by omega)), (hs.low _ (by omega)).trans hl, (hs.low _ (by omega)).trans hd⟩
  have hcall := hseq (w.heap.size + 1) (fun b => M b ∨ b = w.heap.size + 1)
    (fun x W => I x W ∧ W.heap[w.heap.size + 1]? = some (R .ready none) ∧ W.heap[w.heap.size]? = some (.deferred (some [])))
    (fun x W => ∃ c, Ix c x W ∧ W.heap[w.heap.size + 1]? = some (R .done (some c)) ∧ W.heap[w.heap.size]? = some (.deferred (some [])))
    V bV (by rintro b (hb | rfl); · exact ⟨by have := (hM b hb).1; omega, (hM b hb).2⟩
             · exact ⟨by omega, fun h => by have := hT _ h; omega⟩)
    (books I _ (hcR _ _) hI)
    (by rintro x A B ⟨c, hc⟩ hs; exact ⟨c, books (Ix c) _ (hcR _ _) (hIx c) x A B hc hs⟩)
    (by rintro x W1 hx hp ⟨hi, hl, hd⟩; exact ⟨hskip x W1 hx hp hi, hl, hd⟩)
    (by
      rintro x W hx hp ⟨hi, hl, hd⟩
      have hlt : w.heap.size + 1 < W.heap.size := (Array.getElem?_eq_some_iff.1 hl).1
      have hl' := hl
      rw [hR] at hl'
      refine ⟨fn, _, assign, body, run_yield (P := P) (args := enc x) hl' (hps x), roundIn_of_wpIn hfn ?_⟩
      -- the record is busy
      obtain ⟨W2, hW2⟩ : ∃ W2, W2 = W.putObj (w.heap.size + 1) (R .busy none) := ⟨_, rfl⟩
      have sW2 : Stay w.heap.size W W2 := by rw [hW2]; exact Stay.putObj _ hl (hcR _ _) (by omega)
      have kW2 : Keep (fun b => M b ∨ b = w.heap.size + 1) W W2 := by rw [hW2]; exact (Keep.refl _ _).putObj (.inr rfl) _
      have lW2 : W2.heap[w.heap.size + 1]? = some (R .busy none) := by rw [hW2]; exact World.putObj_heap_same hlt
      have dW2 : W2.heap[w.heap.size]? = some (.deferred (some [])) := by rw [hW2]; exact (World.putObj_heap_other (by omega)).trans hd
      have e2 : W.putObj (w.heap.size + 1) (.loop { state := .busy, pending := none, fn, tmps := a.tmps, params := ps, assign, body, defers := w.heap.size }) = W2 := by rw [hW2, hR]
      -- a round's end
      have fin : ∀ (j : Option Code) (W3 : World), Keep M W2 W3 → ∃ W4, (Instr.endRound (w.heap.size + 1) j).run P W3 = .ok (.bool j.isNone) W4 ∧ Stay w.heap.size W3 W4 ∧ Keep (fun b => M b ∨ b = w.heap.size + 1) W W4 ∧
          W4.heap[w.heap.size + 1]? = some (R (if j.isNone then .ready else .done) j) ∧ W4.heap[w.heap.size]? = some (.deferred (some [])) := by
        intro j W3 k3
        have h2 : w.heap.size + 1 < W2.heap.size := (Array.getElem?_eq_some_iff.1 lW2).1
        have l3 : W3.heap[w.heap.size + 1]? = some (R .busy none) := (k3.2 _ h2 (fun h => by have := (hM _ h).1; omega)).trans lW2
        have d3 : W3.heap[w.heap.size]? = some (.deferred (some [])) := (k3.2 _ (by omega) (fun h => by have := (hM _ h).1; omega)).trans dW2
        have l3' := l3
        rw [hR] at l3'
        refine ⟨_, run_endRound (P := P) j l3', Stay.putObj _ l3 (hcR _ _) (by omega), (kW2.trans (k3.mono fun _ h => .inl h)).putObj (.inr rfl) _, ?_, (World.putObj_heap_other (by omega)).trans d3⟩
        rw [World.putObj_heap_same (Array.getElem?_eq_some_iff.1 l3).1, hR]
      refine wpIn_mono (hround (w.heap.size + 1) x W W2 hx hp (hI x _ _ hi sW2)) ?_
      rintro e1 a' W1 he1
      have hn : e1 = .normal ∧ W1 = W ∧ body.wpIn (Fence.wide.inRound (w.heap.size + 1)) 8 P (postC M I Ix x W2) a' W2 := by
        cases e1 with
        | normal => exact ⟨rfl, he1.1, he1.2⟩
        | _ => exact he1.elim
      obtain ⟨rfl, rfl, hb⟩ := hn
      refine ⟨W2, ?_, wpIn_mono hb ?_⟩
      · rw [← e2]; exact run_beginRound hl' rfl
      rintro e a3 W3 hpost
      cases e with
      | normal =>
        obtain ⟨W4, hr, s4, k4, l4, d4⟩ := fin none W3 hpost.1
        exact ⟨_, _, hr, .inl ⟨rfl, ⟨hI _ _ _ hpost.2 s4, l4, d4⟩, k4⟩⟩
      | ret =>
        obtain ⟨W4, hr, s4, k4, l4, d4⟩ := fin (some .ret) W3 hpost.1
        exact ⟨_, _, hr, .inr ⟨rfl, ⟨_, hIx _ _ _ _ hpost.2 s4, l4, d4⟩, k4⟩⟩
      | exit id =>
        obtain ⟨W4, hr, s4, k4, l4, d4⟩ := fin (some (.exit id)) W3 hpost.1
        exact ⟨_, _, hr, .inr ⟨rfl, ⟨_, hIx _ _ _ _ hpost.2 s4, l4, d4⟩, k4⟩⟩
      | goto t =>
        obtain ⟨W4, hr, s4, k4, l4, d4⟩ := fin (some (.goto t)) W3 hpost.1
        exact ⟨_, _, hr, .inr ⟨rfl, ⟨_, hIx _ _ _ _ hpost.2 s4, l4, d4⟩, k4⟩⟩
      | panic ch => exact hpost.elim
      | outgrown => exact hpost.elim)
    ⟨hI _ _ _ h0 st0, lV, dV⟩
  refine (callsIn_wide.2 (callsIn_wide.1 hcall)).mono ?_
  -- behind the iterator
  rintro e W ⟨⟨v, rfl⟩, (⟨hi, hl, hd⟩ | ⟨x, hx, hp, c, hi, hl, hd⟩)⟩
  · have hl' := hl
    rw [hR] at hl'
    exact ⟨none, _, run_endLoop (P := P) hl' (by simp), hdone _ _ (Nat.le_refl _) (hI _ _ _ hi (Stay.putObj _ hl (hcR _ _) (by omega))) ((World.putObj_heap_other (by omega)).trans hd)⟩
  · have hl' := hl
    rw [hR] at hl'
    exact ⟨some c, _, run_endLoop (P := P) hl' (by simp), hstop _ c x _ (Nat.le_refl _) hx hp (hIx _ _ _ _ hi (Stay.putObj _ hl (hcR _ _) (by omega))) ((World.putObj_heap_other (by omega)).trans hd)⟩

/-- a function that ranged over another one leaves: its result stands in a box, which is written last; the block for the rounds' deferred calls is shut -/
theorem leaves {n B D : Nat} {w W : World} {v u : Value} (hb : Box W B v) (hK : W.heap[D]? = some (.deferred (some []))) (hB : n ≤ B) (hD : n ≤ D) (hne : B ≠ D) (h : Below n w W) :
    (W.setCell ⟨B, 0, none⟩ u).heap[D]? = some (.deferred (some [])) ∧ ((W.setCell ⟨B, 0, none⟩ u).putObj D (.deferred none)).cell? ⟨B, 0, none⟩ = some u ∧ Below n w ((W.setCell ⟨B, 0, none⟩ u).putObj D (.deferred none)) := by
  have k1 : (W.setCell ⟨B, 0, none⟩ u).heap[D]? = some (.deferred (some [])) := (Below.heap_setCell W _ u D (fun e => hne e.symm)).trans hK
  have s1 : Stay D (W.setCell ⟨B, 0, none⟩ u) ((W.setCell ⟨B, 0, none⟩ u).putObj D (.deferred none)) := Stay.putObj _ k1 rfl (Nat.le_refl _)
  exact ⟨k1, ((hb.set u).stay s1).1, below_stay (h.setCell (p := ⟨B, 0, none⟩) hB u) s1 hD⟩

/-- a function without results that ranged over others, once and again, leaves: each block for deferred calls is shut -/
theorem leaves_all {n : Nat} {P : Program} {fn : Func} {tmps : Array Value} {R : Ending → World → Prop} {B : Nat} (hfn : fn.results = #[]) (hR : ∀ W W', R (.returned (.tuple #[])) W → Stay B W W' → R (.returned (.tuple #[])) W') :
    ∀ (ds : List Nat) (W : World), ds.Nodup → (∀ D ∈ ds, B ≤ D ∧ W.heap[D]? = some (.deferred (some []))) → R (.returned (.tuple #[])) W → LeavesInM Fence.wide n P fn tmps R (ds.map fun D => { target := .collected D, args := #[] }) .returning W
  | [], W, _, _, h => ⟨_, results_none hfn _ _ _, h⟩
  | D :: ds, W, hnd, hd, h => by
    have h0 := hd D (by simp)
    have hnd' := List.nodup_cons.1 hnd
    refine ⟨by simp, .inl ⟨D, _, rfl, run_takeDeferred h0.2, ?_⟩⟩
    refine leaves_all hfn hR ds _ hnd'.2 (fun E hE => ?_) (hR _ _ h (Stay.putObj _ h0.2 rfl h0.1))
    have hE' := hd E (by simp [hE])
    exact ⟨hE'.1, (World.putObj_heap_other (fun e => hnd'.1 (by cases e; exact hE))).trans hE'.2⟩

end Go.Proofs.Ytcpjmfemgdgplaa
