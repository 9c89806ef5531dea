/-
  A range over a function whose body owns blocks that it lays itself, round by round (a slice that grows): what is the body's is told by the world. And a range within a round of another one.
-/
import Derived.Test.YtjinbhggimbcbaaRange
namespace Go.Proofs.Ytjinbhggimbcbaa
open Go.RowKit

/-- what is not M's in W lies in W' as it lay, and is not M's there -/
def KeepD (M : World → Nat → Prop) (W W' : World) : Prop := W.heap.size ≤ W'.heap.size ∧ ∀ b, b < W.heap.size → ¬ M W b → W'.heap[b]? = W.heap[b]? ∧ ¬ M W' b
/-- in W, what is M's lies below the heap's end, and an iterator's doing neither adds to it nor takes from it -/
def Ok (M : World → Nat → Prop) (W : World) : Prop := (∀ b, M W b → b < W.heap.size) ∧ ∀ (C : Nat) (W' : World) (b : Nat), Stay C W W' → (M W' b ↔ M W b)
section
variable {M : World → Nat → Prop} {X Y Z : World}
theorem Ok.stay {C : Nat} (h : Ok M X) (k : Stay C X Y) : Ok M Y :=
  ⟨fun b m => Nat.lt_of_lt_of_le (h.1 b ((h.2 _ _ _ k).1 m)) k.size, fun _ _ b k' => (h.2 0 _ b ((k.mono (Nat.zero_le _)).trans (k'.mono (Nat.zero_le _)))).trans (h.2 _ _ b k).symm⟩
theorem Ok.fresh {C : Nat} (h : Ok M X) (k : Stay C X Y) {b : Nat} (hb : X.heap.size ≤ b) : ¬ M Y b := fun m => by
  have := h.1 b ((h.2 _ _ _ k).1 m); omega
theorem Ok.not {C : Nat} (h : Ok M X) (k : Stay C X Y) {b : Nat} (hb : ¬ M X b) : ¬ M Y b := fun m => hb ((h.2 _ _ _ k).1 m)
theorem Ok.with {l : Nat} (h : Ok M X) (hl : l < X.heap.size) : Ok (fun W b => M W b ∨ b = l) X :=
  ⟨fun b hb => hb.elim (h.1 b) (fun e => by omega), fun C W' b k => ⟨fun m => m.imp (h.2 _ _ _ k).1 id, fun m => m.imp (h.2 _ _ _ k).2 id⟩⟩
theorem KeepD.refl (M : World → Nat → Prop) (W : World) : KeepD M W W := ⟨Nat.le_refl _, fun _ _ h => ⟨rfl, h⟩⟩
theorem KeepD.trans (h : KeepD M X Y) (k : KeepD M Y Z) : KeepD M X Z :=
  ⟨Nat.le_trans h.1 k.1, fun b hb hm => ⟨(k.2 b (Nat.lt_of_lt_of_le hb h.1) (h.2 b hb hm).2).1.trans (h.2 b hb hm).1, (k.2 b (Nat.lt_of_lt_of_le hb h.1) (h.2 b hb hm).2).2⟩⟩
theorem KeepD.ofStay {B : Nat} (hm : Ok M X) (h : Stay B X Y) (hC : X.heap.size ≤ B) : KeepD M X Y := ⟨h.size, fun b hb hn => ⟨h.low b (by omega), hm.not h hn⟩⟩
theorem KeepD.box {b : Nat} {v : Value} (h : KeepD M X Y) (hb : Box X b v) (hm : ¬ M X b) : Box Y b v := hb.of (h.2 b hb.lt hm).1
theorem KeepD.with (h : KeepD M X Y) (l : Nat) : KeepD (fun W b => M W b ∨ b = l) X Y :=
  ⟨h.1, fun b hb hm => ⟨(h.2 b hb fun k => hm (.inl k)).1, fun k => k.elim (h.2 b hb fun k => hm (.inl k)).2 fun e => hm (.inr e)⟩⟩
theorem KeepD.record {l : Nat} {o : Obj} (hm : Ok M Y) (h : KeepD (fun W b => M W b ∨ b = l) X Y) (hl : Y.heap[l]? = some o) (ho : o.isCells = false) (o' : Obj) : KeepD (fun W b => M W b ∨ b = l) X (Y.putObj l o') :=
  h.trans ⟨by simp, fun b _ hn => ⟨World.putObj_heap_other fun e => hn (.inr (by cases e; rfl)), fun k => k.elim (fun m => hn (.inl ((hm.2 0 _ _ (Stay.putObj (B := 0) o' hl ho (Nat.zero_le _))).1 m))) fun e => hn (.inr e)⟩⟩
end

/-- an iterator's contract, as SeqC, for a body whose own blocks are told by the world -/
def SeqD (P : Program) (g : Nat) (lb : Array Value) (enc : Nat → Array Value) (N : Nat) (T : Nat → Prop) (w : World) : Prop :=
  ∀ (l : Nat) (M : World → Nat → Prop) (J Jx : Nat → World → Prop) (W : World), ((∀ x W, J x W → Ok M W) ∧ ∀ x W, Jx x W → Ok M W) → Below w.heap.size w W → (∀ b, T b → ¬ M W b) → Abide W.heap.size J → Abide W.heap.size Jx →
    (∀ x W1, x < N → J x W1 → YieldAt Fence.wide 8 P l (enc x) W1 fun e W' => (e = .returned (.bool true) ∧ J (x + 1) W' ∧ KeepD M W1 W') ∨ (e = .returned (.bool false) ∧ Jx x W' ∧ KeepD M W1 W')) →
    J 0 W → CallsIn Fence.wide 9 P g (#[.func (.yield l) #[] #[]] ++ lb) W fun e W' => (∃ v, e = .returned v) ∧ (J N W' ∨ ∃ x, x < N ∧ Jx x W')

/-- how a body may be left that met x -/
def postD (M : World → Nat → Prop) (I : Nat → World → Prop) (Ix : Code → Nat → World → Prop) (x : Nat) (W : World) : Exit → Act → World → Prop
  | .normal, _, W' => KeepD M W W' ∧ I (x + 1) W'
  | .ret, _, W' => KeepD M W W' ∧ Ix .ret x W'
  | .exit id, _, W' => KeepD M W W' ∧ Ix (.exit id) x W'
  | .goto t, _, W' => KeepD M W W' ∧ Ix (.goto t) x W'
  | .panic _, _, _ => False
  | .outgrown, _, _ => False

/-- what a round gets, and what it must give -/
def RoundD (P : Program) (ps : Array Tmp) (assign body : Code) (a : Act) (w : World) (enc : Nat → Array Value) (N : Nat) (M : World → Nat → Prop) (I : Nat → World → Prop) (Ix : Code → Nat → World → Prop) : Prop :=
  ∀ (l x : Nat) (W : World), x < N → I x W → w.heap.size ≤ W.heap.size →
    assign.wpIn (Fence.wide.inRound l) 8 P (Exit.then (fun a' W1 => KeepD M W W1 ∧ Ok M W1 ∧ ∀ W2, Stay w.heap.size W1 W2 → W2.heap.size = W1.heap.size → (∃ r, W2.heap[l]? = some (.loop r)) → body.wpIn (Fence.wide.inRound l) 8 P (postD M I Ix x W2) a' W2) (fun _ _ _ => False)) { tmps := (ps.zip (enc x)).foldl (fun t (p, v) => t.setIfInBounds p v) a.tmps, defers := [] } W

/-- the iterator's call, its loop's record in l: the same for an outer range and for one within a round -/
theorem range_call {P : Program} {ps : Array Tmp} {assign body : Code} {a : Act} {w V : World} {gf : Nat} {lb : Array Value} {enc : Nat → Array Value} {N : Nat} {T : Nat → Prop} (hseq : SeqD P gf lb enc N T w) (hps : ∀ x, (enc x).size = ps.size)
    (M : World → Nat → Prop) (hT : ∀ b, T b → b < w.heap.size ∧ ¬ M w b) (I : Nat → World → Prop) (Ix : Code → Nat → World → Prop) (hO : (∀ x W, I x W → Ok M W) ∧ ∀ c x W, Ix c x W → Ok M W) (hI : Abide w.heap.size I) (hIx : ∀ c, Abide w.heap.size (Ix c)) (h0 : I 0 w)
    (hround : RoundD P ps assign body a w enc N M I Ix)
    (fn l dd : Nat) (X : World → Prop) (hX : ∀ A B, Ok M A → X A → Stay V.heap.size A B → X B) (hXr : ∀ A B, X A → KeepD M A B → X B) (hXp : ∀ (A : World) (o o' : Obj), Ok M A → X A → A.heap[l]? = some o → o.isCells = false → X (A.putObj l o'))
    (hl0 : w.heap.size ≤ l) (hl1 : l < V.heap.size) (sV : Stay w.heap.size w V) (lV : V.heap[l]? = some (.loop { state := .ready, pending := none, fn, tmps := a.tmps, params := ps, assign, body, defers := dd })) (xV : X V) :
    CallsIn Fence.wide 9 P gf (#[.func (.yield l) #[] #[]] ++ lb) V fun e W => (∃ v, e = .returned v) ∧
      ((I N W ∧ W.heap[l]? = some (.loop { state := .ready, pending := none, fn, tmps := a.tmps, params := ps, assign, body, defers := dd }) ∧ X W) ∨
       ∃ x c, x < N ∧ Ix c x W ∧ W.heap[l]? = some (.loop { state := .done, pending := some c, fn, tmps := a.tmps, params := ps, assign, body, defers := dd }) ∧ X W) := by
  obtain ⟨R, hR⟩ : ∃ R : LoopState → Option Code → Obj, R = fun st pe => Obj.loop { state := st, pending := pe, fn, tmps := a.tmps, params := ps, assign, body, defers := dd } := ⟨_, rfl⟩
  have hcR : ∀ st pe, (R st pe).isCells = false := fun st pe => by rw [hR]; rfl
  have lV' : V.heap[l]? = some (R .ready none) := by rw [hR]; exact lV
  have hsV := sV.size
  have bV : Below w.heap.size w V := below_stay (Below.refl _ _) sV (Nat.le_refl _)
  have hMw : Ok M w := hO.1 _ _ h0
  have nl : ∀ Y B, Stay B w Y → ¬ M Y l := fun Y B k => hMw.fresh k hl0
  have books : ∀ (K : Nat → World → Prop) (o : Obj), (∀ x W, K x W → Ok M W) → Abide w.heap.size K → Abide V.heap.size (fun x W => K x W ∧ W.heap[l]? = some o ∧ X W ∧ ¬ M W l ∧ V.heap.size ≤ W.heap.size) := by
    rintro K o hOK hK x A B ⟨hx, hl, hxx, hn, hz⟩ hs
    exact ⟨hK x A B hx (hs.mono (by omega)), (hs.low _ (by omega)).trans hl, hX A B (hOK _ _ hx) hxx hs, (hOK _ _ hx).not hs hn, Nat.le_trans hz hs.size⟩
  have hcall := hseq l (fun W b => M W b ∨ b = l)
    (fun x W => I x W ∧ W.heap[l]? = some (R .ready none) ∧ X W ∧ ¬ M W l ∧ V.heap.size ≤ W.heap.size)
    (fun x W => ∃ c, Ix c x W ∧ W.heap[l]? = some (R .done (some c)) ∧ X W ∧ ¬ M W l ∧ V.heap.size ≤ W.heap.size)
    V ⟨fun x W h => (hO.1 _ _ h.1).with (by have := h.2.2.2.2; omega), fun x W ⟨c, h⟩ => (hO.2 _ _ _ h.1).with (by have := h.2.2.2.2; omega)⟩ bV (fun b hb h => h.elim (hMw.not sV (hT b hb).2) (fun e => by have := (hT b hb).1; omega))
    (books I _ hO.1 hI)
    (by rintro x A B ⟨c, hc⟩ hs; exact ⟨c, books (Ix c) _ (hO.2 c) (hIx c) x A B hc hs⟩)
    (by
      rintro x W hx ⟨hi, hl, hxW, hnW, hzW⟩
      have hl' := hl
      rw [hR] at hl'
      refine ⟨fn, _, assign, body, run_yield (P := P) (args := enc x) hl' (hps x), roundIn_of_wpIn (F := Fence.wide) trivial ?_⟩
      refine wpIn_mono (hround l x W hx hi (by omega)) ?_
      rintro e1 a' W1 he1
      have hn : e1 = .normal ∧ KeepD M W W1 ∧ Ok M W1 ∧ ∀ W2, Stay w.heap.size W1 W2 → W2.heap.size = W1.heap.size → (∃ r, W2.heap[l]? = some (.loop r)) → body.wpIn (Fence.wide.inRound l) 8 P (postD M I Ix x W2) a' W2 := by
        cases e1 with
        | normal => exact ⟨rfl, he1.1, he1.2⟩
        | _ => exact he1.elim
      obtain ⟨rfl, k1, o1, hb⟩ := hn
      have hlt : l < W.heap.size := (Array.getElem?_eq_some_iff.1 hl).1
      have l1 : W1.heap[l]? = some (R .ready none) := (k1.2 _ hlt hnW).1.trans hl
      have n1 : ¬ M W1 l := (k1.2 _ hlt hnW).2
      have hlt1 : l < W1.heap.size := (Array.getElem?_eq_some_iff.1 l1).1
      have l1' := l1
      rw [hR] at l1'
      obtain ⟨W2, hW2⟩ : ∃ W2, W2 = W1.putObj l (R .busy none) := ⟨_, rfl⟩
      have sW2 : Stay w.heap.size W1 W2 := by rw [hW2]; exact Stay.putObj _ l1 (hcR _ _) hl0
      have zW2 : W2.heap.size = W1.heap.size := by rw [hW2]; simp
      have kW2 : KeepD (fun W b => M W b ∨ b = l) W W2 := by rw [hW2]; exact (k1.with l).record o1 l1 (hcR _ _) _
      have lW2 : W2.heap[l]? = some (R .busy none) := by rw [hW2]; exact World.putObj_heap_same hlt1
      have n2 : ¬ M W2 l := o1.not sW2 n1
      have xW2 : X W2 := by rw [hW2]; exact hXp _ _ _ o1 (hXr _ _ hxW k1) l1 (hcR _ _)
      have e2 : W1.putObj l (.loop { state := .busy, pending := none, fn, tmps := a.tmps, params := ps, assign, body, defers := dd }) = W2 := by rw [hW2, hR]
      have fin : ∀ (j : Option Code) (W3 : World), Ok M W3 → KeepD M W2 W3 → ∃ W4, (Instr.endRound l j).run P W3 = .ok (.bool j.isNone) W4 ∧ Stay w.heap.size W3 W4 ∧ KeepD (fun W b => M W b ∨ b = l) W W4 ∧
          W4.heap[l]? = some (R (if j.isNone then .ready else .done) j) ∧ X W4 ∧ ¬ M W4 l ∧ V.heap.size ≤ W4.heap.size := by
        intro j W3 o3 k3
        have h2 : l < W2.heap.size := (Array.getElem?_eq_some_iff.1 lW2).1
        have l3 : W3.heap[l]? = some (R .busy none) := (k3.2 _ h2 n2).1.trans lW2
        have n3 : ¬ M W3 l := (k3.2 _ h2 n2).2
        have l3' := l3
        rw [hR] at l3'
        have s3 : ∀ o, Stay w.heap.size W3 (W3.putObj l o) := fun o => Stay.putObj _ l3 (hcR _ _) hl0
        refine ⟨_, run_endRound (P := P) j l3', s3 _, (kW2.trans (k3.with l)).record o3 l3 (hcR _ _) _, ?_, hXp _ _ _ o3 (hXr _ _ xW2 k3) l3 (hcR _ _), o3.not (s3 _) n3, ?_⟩
        · rw [World.putObj_heap_same (Array.getElem?_eq_some_iff.1 l3).1, hR]
        · have := k1.1; have := k3.1; simp; omega
      refine ⟨W2, ?_, wpIn_mono (hb W2 sW2 zW2 ⟨_, by rw [lW2, hR]⟩) ?_⟩
      · rw [← e2]; exact run_beginRound l1' rfl
      rintro e a3 W3 hpost
      cases e with
      | normal =>
        obtain ⟨W4, hr, s4, k4, l4, x4, n4, z4⟩ := fin none W3 (hO.1 _ _ hpost.2) hpost.1
        exact ⟨_, _, hr, .inl ⟨rfl, ⟨hI _ _ _ hpost.2 s4, l4, x4, n4, z4⟩, k4⟩⟩
      | ret =>
        obtain ⟨W4, hr, s4, k4, l4, x4, n4, z4⟩ := fin (some .ret) W3 (hO.2 _ _ _ hpost.2) hpost.1
        exact ⟨_, _, hr, .inr ⟨rfl, ⟨_, hIx _ _ _ _ hpost.2 s4, l4, x4, n4, z4⟩, k4⟩⟩
      | exit id =>
        obtain ⟨W4, hr, s4, k4, l4, x4, n4, z4⟩ := fin (some (.exit id)) W3 (hO.2 _ _ _ hpost.2) hpost.1
        exact ⟨_, _, hr, .inr ⟨rfl, ⟨_, hIx _ _ _ _ hpost.2 s4, l4, x4, n4, z4⟩, k4⟩⟩
      | goto t =>
        obtain ⟨W4, hr, s4, k4, l4, x4, n4, z4⟩ := fin (some (.goto t)) W3 (hO.2 _ _ _ hpost.2) hpost.1
        exact ⟨_, _, hr, .inr ⟨rfl, ⟨_, hIx _ _ _ _ hpost.2 s4, l4, x4, n4, z4⟩, k4⟩⟩
      | panic ch => exact hpost.elim
      | outgrown => exact hpost.elim)
    ⟨hI _ _ _ h0 sV, lV', xV, nl V _ sV, Nat.le_refl _⟩
  refine hcall.mono ?_
  rintro e W ⟨hv, (⟨hi, hl, hx, _⟩ | ⟨x, hxN, c, hi, hl, hx, _⟩)⟩
  · exact ⟨hv, .inl ⟨hi, by rw [hR] at hl; exact hl, hx⟩⟩
  · exact ⟨hv, .inr ⟨x, c, hxN, hi, by rw [hR] at hl; exact hl, hx⟩⟩

theorem rangeD {P : Program} {g : Operand} {ps : Array Tmp} {assign body : Code} {Q : Exit → Act → World → Prop} {a : Act} {w : World} {n : Nat}
    {gf : Nat} {lb : Array Value} (hg : a.eval g = .func (.func gf) #[] lb) (eg : ∀ args w, (callFunc gf args).run P w = .ok (.enter gf args) w)
    {enc : Nat → Array Value} {N : Nat} {T : Nat → Prop} (hseq : SeqD P gf lb enc N T w) (hps : ∀ x, (enc x).size = ps.size)
    (M : World → Nat → Prop) (hT : ∀ b, T b → b < w.heap.size ∧ ¬ M w b) (I : Nat → World → Prop) (Ix : Code → Nat → World → Prop) (hO : (∀ x W, I x W → Ok M W) ∧ ∀ c x W, Ix c x W → Ok M W) (hI : Abide w.heap.size I) (hIx : ∀ c, Abide w.heap.size (Ix c)) (h0 : I 0 w)
    (hround : RoundD P ps assign body a w enc N M I Ix)
    (hdone : ∀ (D : Nat) (W : World), w.heap.size ≤ D → I N W → W.heap[D]? = some (.deferred (some [])) ∧ ¬ M W D → Q .normal { a with defers := { target := .collected D, args := #[] } :: a.defers } W)
    (hstop : ∀ (D : Nat) (c : Code) (x : Nat) (W : World), w.heap.size ≤ D → x < N → Ix c x W → W.heap[D]? = some (.deferred (some [])) ∧ ¬ M W D → c.wpIn Fence.wide n P Q { a with defers := { target := .collected D, args := #[] } :: a.defers } W) :
    (Code.rangeFunc g ps assign body).wpIn Fence.wide n P Q a w := by
  refine wpIn_rangeFunc fun fn _ => ?_
  have r1 : (w.alloc (.deferred (some []))).heap.size = w.heap.size + 1 := by simp
  obtain ⟨V, hV⟩ : ∃ V, V = (w.alloc (.deferred (some []))).alloc (.loop { state := .ready, pending := none, fn, tmps := a.tmps, params := ps, assign, body, defers := w.heap.size }) := ⟨_, rfl⟩
  have sz : V.heap.size = w.heap.size + 2 := by rw [hV]; simp
  have st0 : Stay w.heap.size w V := by rw [hV]; exact (Stay.alloc _ w _ (Nat.le_refl _)).trans (Stay.alloc _ _ _ (by rw [r1]; omega))
  have lV : V.heap[w.heap.size + 1]? = some (.loop { state := .ready, pending := none, fn, tmps := a.tmps, params := ps, assign, body, defers := w.heap.size }) := by rw [hV, ← r1]; exact World.alloc_heap_new _ _
  have dV : V.heap[w.heap.size]? = some (.deferred (some [])) := by rw [hV]; exact (Below.heap_alloc _ _ _ (by rw [r1]; omega)).trans (World.alloc_heap_new w _)
  refine ⟨w.heap.size + 1, [{ target := .collected w.heap.size, args := #[] }], V, { target := .fn (.func gf) lb, args := #[.func (.yield (w.heap.size + 1)) #[] #[]] }, V, gf,
    #[.func (.yield (w.heap.size + 1)) #[] #[]] ++ lb, V, ?_, ?_, fun _ _ => trivial, ?_, (fun h => by cases h), ?_⟩
  · rw [hV]; exact run_enterLoop_outer _ _ _ _ _
  · simp only [resolve, hg]; simp [go_sem]
  · simp [invoke, go_sem, eg]
  have hcall := range_call (P := P) (ps := ps) (assign := assign) (body := body) (a := a) (V := V) hseq hps M hT I Ix hO hI hIx h0 hround fn (w.heap.size + 1) w.heap.size
    (fun W => W.heap[w.heap.size]? = some (.deferred (some [])) ∧ ¬ M W w.heap.size)
    (fun A B o h hs => ⟨(hs.low _ (by omega)).trans h.1, o.not hs h.2⟩)
    (fun A B h k => let hlt := (Array.getElem?_eq_some_iff.1 h.1).1; ⟨(k.2 _ hlt h.2).1.trans h.1, (k.2 _ hlt h.2).2⟩)
    (fun A o o' ok h hl ho => ⟨(World.putObj_heap_other (by omega)).trans h.1, ok.not (Stay.putObj (B := 0) o' hl ho (Nat.zero_le _)) h.2⟩)
    (by omega) (by omega) st0 lV ⟨dV, (hO.1 _ _ h0).fresh st0 (Nat.le_refl _)⟩
  refine (callsIn_wide.2 (callsIn_wide.1 hcall)).mono ?_
  rintro e W ⟨⟨v, rfl⟩, (⟨hi, hl, hx⟩ | ⟨x, c, hxN, hi, hl, hx⟩)⟩
  · exact ⟨none, _, run_endLoop (P := P) hl (by simp), hdone _ _ (Nat.le_refl _) (hI _ _ _ hi (Stay.putObj _ hl rfl (by omega))) ⟨(World.putObj_heap_other (by omega)).trans hx.1, (hO.1 _ _ hi).not (Stay.putObj (B := w.heap.size) _ hl rfl (by omega)) hx.2⟩⟩
  · exact ⟨some c, _, run_endLoop (P := P) hl (by simp), hstop _ c x _ (Nat.le_refl _) hxN (hIx _ _ _ _ hi (Stay.putObj _ hl rfl (by omega))) ⟨(World.putObj_heap_other (by omega)).trans hx.1, (hO.2 _ _ _ hi).not (Stay.putObj (B := w.heap.size) _ hl rfl (by omega)) hx.2⟩⟩

/-- a range within a round of another loop -/
theorem rangeN {P : Program} {g : Operand} {ps : Array Tmp} {assign body : Code} {Q : Exit → Act → World → Prop} {a : Act} {w : World} {n l0 : Nat} (hr0 : ∃ r, w.heap[l0]? = some (.loop r))
    {gf : Nat} {lb : Array Value} (hg : a.eval g = .func (.func gf) #[] lb) (eg : ∀ args w, (callFunc gf args).run P w = .ok (.enter gf args) w)
    {enc : Nat → Array Value} {N : Nat} {T : Nat → Prop} (hseq : SeqD P gf lb enc N T w) (hps : ∀ x, (enc x).size = ps.size)
    (M : World → Nat → Prop) (hT : ∀ b, T b → b < w.heap.size ∧ ¬ M w b) (I : Nat → World → Prop) (Ix : Code → Nat → World → Prop) (hO : (∀ x W, I x W → Ok M W) ∧ ∀ c x W, Ix c x W → Ok M W) (hI : Abide w.heap.size I) (hIx : ∀ c, Abide w.heap.size (Ix c)) (h0 : I 0 w)
    (hround : RoundD P ps assign body a w enc N M I Ix)
    (hdone : ∀ (W : World), I N W → Q .normal a W)
    (hstop : ∀ (c : Code) (x : Nat) (W : World), x < N → Ix c x W → c.wpIn (Fence.wide.inRound l0) n P Q a W) :
    (Code.rangeFunc g ps assign body).wpIn (Fence.wide.inRound l0) n P Q a w := by
  obtain ⟨r0, hr0⟩ := hr0
  refine wpIn_rangeFunc fun fn _ => ?_
  obtain ⟨V, hV⟩ : ∃ V, V = w.alloc (.loop { state := .ready, pending := none, fn, tmps := a.tmps, params := ps, assign, body, defers := r0.defers }) := ⟨_, rfl⟩
  have sz : V.heap.size = w.heap.size + 1 := by rw [hV]; simp
  have st0 : Stay w.heap.size w V := by rw [hV]; exact Stay.alloc _ w _ (Nat.le_refl _)
  have lV : V.heap[w.heap.size]? = some (.loop { state := .ready, pending := none, fn, tmps := a.tmps, params := ps, assign, body, defers := r0.defers }) := by rw [hV]; exact World.alloc_heap_new _ _
  refine ⟨w.heap.size, [], V, { target := .fn (.func gf) lb, args := #[.func (.yield w.heap.size) #[] #[]] }, V, gf,
    #[.func (.yield w.heap.size) #[] #[]] ++ lb, V, ?_, ?_, fun _ _ => trivial, ?_, (fun h => by cases h), ?_⟩
  · rw [hV]; exact run_enterLoop_inner hr0 _ _ _ _ _
  · simp only [resolve, hg]; simp [go_sem]
  · simp [invoke, go_sem, eg]
  have hcall := range_call (P := P) (ps := ps) (assign := assign) (body := body) (a := a) (V := V) hseq hps M hT I Ix hO hI hIx h0 hround fn w.heap.size r0.defers
    (fun _ => True) (fun _ _ _ _ _ => trivial) (fun _ _ _ _ => trivial) (fun _ _ _ _ _ _ _ => trivial) (Nat.le_refl _) (by omega) st0 lV trivial
  have hc2 : CallsIn (Fence.wide.inRound l0) (n - 1) P gf (#[.func (.yield w.heap.size) #[] #[]] ++ lb) V _ := (callsIn_wide (n := n - 1)).2 (callsIn_wide.1 hcall)
  refine hc2.mono ?_
  rintro e W ⟨⟨v, rfl⟩, (⟨hi, hl, _⟩ | ⟨x, c, hxN, hi, hl, _⟩)⟩
  · exact ⟨none, _, run_endLoop (P := P) hl (by simp), hdone _ (hI _ _ _ hi (Stay.putObj _ hl rfl (by omega)))⟩
  · exact ⟨some c, _, run_endLoop (P := P) hl (by simp), hstop c x _ hxN (hIx _ _ _ _ hi (Stay.putObj _ hl rfl (by omega)))⟩
end Go.Proofs.Ytjinbhggimbcbaa
