/-
  Texts of one family, one behind another: ArrArgs, Range, Ary, Cb, BitMath, GeMath, BitW1.
-/
import Derived.Test.YtcpjmfemgdgplaaRows
import Derived.WalkKit
import Derived.ProofKit
import Derived.OpenShut
import Derived.RangeFuncNested
import Derived.RangeFuncBound
import Derived.RangeFuncCalls
import Derived.RangeFuncLeaves
import Derived.WalkLawsBesides
import Derived.Deep.MidRow
import Derived.Deep.RegionHeld3
import Derived.Laws.CopyOwn
import Derived.Deep.OwnRows
import Derived.Stop.BytesEq
import Derived.Laws.BitsAllLaws
import Derived.Lib.TrailingZeros
import Derived.WalkSpells
import Derived.Deep.QuietTactic
import Derived.BigQuiet

/-
  Arrays of integers as arguments: what a row's condition tells of one, and that it reads as it read.
-/
namespace Go.Proofs.Ytcpjmfemgdgplaa
open Go.ChangeShapes Go.WideShapes Go.ChangeAt Go.RowKit

/-- n integers -/
def ints (k : IntKind) (n : Nat) (F : Nat → Int) : List Value := (List.range n).map fun i => Value.int k (F i)
def intsD {H : Type} (k : IntKind) (n : Nat) (F : Nat → Int) : DataW H := .agg ((List.range n).map fun i => DataW.lit (.int k (F i)))
theorem ints_len (k : IntKind) (n : Nat) (F : Nat → Int) : (ints k n F).length = n := by simp [ints]
theorem ints_at (k : IntKind) (n : Nat) (F : Nat → Int) (i : Nat) (h : i < n) : (ints k n F)[i]? = some (.int k (F i)) := by simp [ints, h]

section
variable {H : Type} {enc : TypeId × Value → H} {P : Program} {w : World} {base : Nat} {spare : Nat → Bool} {held : Bool} {t : TypeId}

theorem okWide_array {r : Reach} {b0 n : Nat} {e : TypeId} {v : Value} (ht : P.underlying t = some (.array n e)) (h : Value.okWide P w r b0 t v) : ∃ cs, v = .agg cs ∧ cs.size = P.cellsOf t := by
  simp only [Value.okWide, ht] at h
  obtain ⟨cs, h1, h2, _⟩ := h
  exact ⟨cs, h1, h2⟩
theorem open_ints {r : Reach} {b0 n : Nat} {e : TypeId} {k : IntKind} {v : Value} {d : DataW H} {ps : List MemPlace} (ht : P.underlying t = some (.array n e)) (he : P.underlying e = some (.int k)) (hce : P.cellsOf e = 1) (hct : P.cellsOf t = n)
    (hval : Value.okWide P w r b0 t v) (hd : DataW.Trod enc P w base spare held t v d ps) :
    ∃ F : Nat → Int, v = .agg (ints k n F).toArray ∧ d = intsD k n F ∧ ps = [] ∧ ∀ i, i < n → (Lit.int k (F i)).wf = true := by
  obtain ⟨cs, rfl, hsz⟩ := okWide_array ht hval
  obtain ⟨fuel, hf⟩ := hd
  obtain ⟨xs, m, _, hx, hl, hxs, hel⟩ := DataW.trod_array ht hf
  simp only [Prod.mk.injEq] at hx
  rw [hce] at hel
  have hcl : cs.toList.length = n := by rw [← hct]; simpa [Value.cells] using hl
  have each : ∀ i, i < n → ∃ z : Int, cs.toList[i]? = some (.int k z) ∧ xs[i]? = some (.lit (.int k z), []) ∧ (Lit.int k z).wf = true := by
    intro i hi
    have h1 := hel i hi
    have hxi : ∃ y, xs[i]? = some y := ⟨_, List.getElem?_eq_getElem (by omega)⟩
    obtain ⟨y, hy⟩ := hxi
    rw [hy] at h1
    obtain ⟨z, hz, hyz, hw⟩ := DataW.trod_int he h1
    have hc : cs.toList[i]? = some (.int k z) := by
      have e1 : ((cs.toList.drop (i * 1)).take 1)[0]? = cs.toList[i]? := by
        rw [List.getElem?_take, if_pos (by omega), List.getElem?_drop, Nat.mul_one, Nat.add_zero]
      have hz' : (cs.toList.drop (i * 1)).take 1 = [.int k z] := by simpa [Value.cells] using hz
      rw [← e1, hz']; rfl
    exact ⟨z, hc, by rw [hy, hyz], hw⟩
  obtain ⟨F, hF⟩ : ∃ F : Nat → Int, ∀ i, i < n → cs.toList[i]? = some (.int k (F i)) ∧ xs[i]? = some (.lit (.int k (F i)), []) ∧ (Lit.int k (F i)).wf = true :=
    ⟨fun i => if h : i < n then Classical.choose (each i h) else 0, fun i hi => by
      simp only [hi, dif_pos]
      exact Classical.choose_spec (each i hi)⟩
  refine ⟨F, ?_, ?_, ?_, fun i hi => (hF i hi).2.2⟩
  · congr 1
    apply Array.ext'
    simp only
    refine List.ext_getElem? fun i => ?_
    by_cases hi : i < n
    · rw [(hF i hi).1, ints_at k n F i hi]
    · rw [List.getElem?_eq_none (by omega), List.getElem?_eq_none (by rw [ints_len]; omega)]
  · rw [hx.1]
    unfold intsD
    congr 1
    refine List.ext_getElem? fun i => ?_
    by_cases hi : i < n
    · rw [List.getElem?_map, (hF i hi).2.1]; simp [hi]
    · rw [List.getElem?_eq_none (by simp; omega), List.getElem?_eq_none (by simp; omega)]
  · rw [hx.2]
    refine List.flatMap_eq_nil_iff.2 fun y hy => ?_
    obtain ⟨i, hi⟩ := List.mem_iff_getElem?.1 hy
    have hin : i < n := by have := (List.getElem?_eq_some_iff.1 hi).1; omega
    rw [(hF i hin).2.1] at hi
    cases hi; rfl
theorem shut_ints {n : Nat} {e : TypeId} {k : IntKind} {F : Nat → Int} (ht : P.underlying t = some (.array n e)) (he : P.underlying e = some (.int k)) (hce : P.cellsOf e = 1) (hct : P.cellsOf t = n)
    (hw : ∀ i, i < n → (Lit.int k (F i)).wf = true) : DataW.Trod enc P w base spare held t (.agg (ints k n F).toArray) (intsD k n F) [] := by
  refine ⟨2, ?_⟩
  have each : ∀ i ∈ List.range n, DataW.trod enc P w base spare held 1 e ((((ints k n F).toArray.toList).drop (i * P.cellsOf e)).take (P.cellsOf e)) = some (DataW.lit (.int k (F i)), []) := by
    intro i hi
    have hin := List.mem_range.1 hi
    have hz : (((ints k n F).toArray.toList).drop (i * P.cellsOf e)).take (P.cellsOf e) = [.int k (F i)] := by
      rw [hce, Nat.mul_one]
      refine List.ext_getElem? fun j => ?_
      cases j with
      | zero => rw [List.getElem?_take, if_pos (by omega), List.getElem?_drop, Nat.add_zero]; simpa using ints_at k n F i hin
      | succ j => rw [List.getElem?_take, if_neg (by omega)]; rfl
    rw [hz]
    simp [DataW.trod, he, hw i hin]
  have hm : (List.range n).mapM (fun i => DataW.trod enc P w base spare held 1 e ((((ints k n F).toArray.toList).drop (i * P.cellsOf e)).take (P.cellsOf e))) = some ((List.range n).map fun i => (DataW.lit (.int k (F i)), ([] : List MemPlace))) := by
    generalize List.range n = l at each
    induction l with
    | nil => rfl
    | cons a l ih =>
      rw [List.mapM_cons, each a (by simp), ih (fun i hi => each i (by simp [hi]))]
      rfl
  unfold DataW.trod
  rw [ht]
  have hlen : (Value.agg (ints k n F).toArray).cells.toList.length = P.cellsOf t := by rw [hct]; exact ints_len k n F
  show (if (Value.agg (ints k n F).toArray).cells.toList.length = P.cellsOf t then _ else none) = _
  rw [if_pos hlen]
  refine (congrArg (Option.map _) hm).trans ?_
  simp only [Option.map_some, Option.some.injEq, Prod.mk.injEq]
  constructor
  · unfold intsD
    congr 1
    rw [List.map_map]; rfl
  · refine List.flatMap_eq_nil_iff.2 fun y hy => ?_
    obtain ⟨i, _, rfl⟩ := List.mem_map.1 hy
    rfl
end
end Go.Proofs.Ytcpjmfemgdgplaa

/-
  A range over a function, as this project meets it: an iterator goes with a cursor over the numbers below N and hands on those that fit; it may itself range over another one. What the loop's body must keep is all that is not the caller's own; what the iterator may turn is what it laid itself.
-/
namespace Go.Proofs.Ytcpjmfemgdgplaa
open Go.RowKit

/-- what lay below B lies; all cells lie; all else may have turned, and more may have come -/
structure Stay (B : Nat) (W W' : World) : Prop where
  os : W'.os = W.os
  tape : W'.tape = W.tape
  output : W'.output = W.output
  size : W.heap.size ≤ W'.heap.size
  cells : ∀ (b : Nat) (o : Obj), W.heap[b]? = some o → o.isCells = true → W'.heap[b]? = some o
  low : ∀ b, b < B → W'.heap[b]? = W.heap[b]?
theorem Stay.mono {B B' : Nat} {W W' : World} (h : Stay B W W') (hB : B' ≤ B) : Stay B' W W' := ⟨h.os, h.tape, h.output, h.size, h.cells, fun b hb => h.low b (by omega)⟩
theorem Stay.trans {B : Nat} {X Y Z : World} (h : Stay B X Y) (k : Stay B Y Z) : Stay B X Z :=
  ⟨k.os.trans h.os, k.tape.trans h.tape, k.output.trans h.output, Nat.le_trans h.size k.size, fun b o hb ho => k.cells b o (h.cells b o hb ho) ho, fun b hb => (k.low b hb).trans (h.low b hb)⟩
theorem Stay.refl (B : Nat) (W : World) : Stay B W W := ⟨rfl, rfl, rfl, Nat.le_refl _, fun _ _ h _ => h, fun _ _ => rfl⟩
theorem Stay.alloc (B : Nat) (W : World) (o : Obj) (hB : B ≤ W.heap.size) : Stay B W (W.alloc o) :=
  ⟨rfl, rfl, rfl, by simp, fun b o' hb _ => (Below.heap_alloc W o b (Array.getElem?_eq_some_iff.1 hb).1).trans hb, fun b hb => Below.heap_alloc W o b (by omega)⟩
theorem Stay.drewN (B : Nat) (W : World) (k : Nat) : Stay B W (W.drewN k) := ⟨rfl, rfl, rfl, Nat.le_refl _, fun _ _ h _ => h, fun _ _ => rfl⟩
theorem Stay.putObj {B : Nat} {W : World} {l : Nat} {o : Obj} (o' : Obj) (hl : W.heap[l]? = some o) (ho : o.isCells = false) (hB : B ≤ l) : Stay B W (W.putObj l o') :=
  ⟨rfl, rfl, rfl, by simp, fun b x hb hx => (World.putObj_heap_other (by intro e; subst e; rw [hl] at hb; cases hb; rw [ho] at hx; cases hx)).trans hb, fun b hb => World.putObj_heap_other (by omega)⟩
theorem below_stay {B C : Nat} {w W W' : World} (h : Below C w W) (k : Stay B W W') (hB : C ≤ B) : Below C w W' :=
  ⟨k.os.trans h.os, k.tape.trans h.tape, k.output.trans h.output, Nat.le_trans h.size k.size, fun b hb => (k.low b (by omega)).trans (h.block b hb)⟩
theorem isCells_of_cell {W : World} {b o : Nat} {v : Value} (h : W.cell? ⟨b, o, none⟩ = some v) : ∃ x, W.heap[b]? = some x ∧ x.isCells = true := by
  cases hb : W.heap[b]? with
  | none => simp [World.cell?, hb] at h
  | some x =>
    refine ⟨x, rfl, ?_⟩
    cases x <;> simp [World.cell?, hb] at h <;> rfl
theorem Stay.cell {B : Nat} {W W' : World} (k : Stay B W W') {b o : Nat} {v : Value} (h : W.cell? ⟨b, o, none⟩ = some v) : W'.cell? ⟨b, o, none⟩ = some v := by
  obtain ⟨x, hx, hc⟩ := isCells_of_cell h
  rw [← h]
  exact World.cell?_of_block (w := W) ((k.cells b x hx hc).trans hx.symm)
/-- a variable's box: it holds v and may be written -/
def Box (W : World) (b : Nat) (v : Value) : Prop := W.cell? ⟨b, 0, none⟩ = some v ∧ W.frozen? ⟨b, 0, none⟩ = false
theorem Box.lt {W : World} {b : Nat} {v : Value} (h : Box W b v) : b < W.heap.size := by
  obtain ⟨x, hx, _⟩ := isCells_of_cell h.1
  exact (Array.getElem?_eq_some_iff.1 hx).1
theorem Box.of {W W' : World} {b : Nat} {v : Value} (h : Box W b v) (k : W'.heap[b]? = W.heap[b]?) : Box W' b v :=
  ⟨(World.cell?_of_block (w := W) k).trans h.1, (World.frozen?_of_block (w := W) k).trans h.2⟩
theorem Box.stay {B : Nat} {W W' : World} (k : Stay B W W') {b : Nat} {v : Value} (h : Box W b v) : Box W' b v := by
  obtain ⟨x, hx, hc⟩ := isCells_of_cell h.1
  exact h.of ((k.cells b x hx hc).trans hx.symm)
theorem Box.new (W : World) (t : TypeId) (v : Value) : Box (W.alloc (.cells #[v] t)) W.heap.size v :=
  ⟨(Boxed.new W t v).cell, (Boxed.new W t v).frozen⟩
theorem Box.alloc {W : World} {b : Nat} {v : Value} (h : Box W b v) (o : Obj) : Box (W.alloc o) b v := h.of (Below.heap_alloc W o b h.lt)
theorem Box.drewN {W : World} {b : Nat} {v : Value} (h : Box W b v) (k : Nat) : Box (W.drewN k) b v := h
theorem Box.set {W : World} {b : Nat} {v : Value} (h : Box W b v) (u : Value) : Box (W.setCell ⟨b, 0, none⟩ u) b u :=
  ⟨World.cell?_setCell_same' _ _ _ (by rw [h.1]; rfl), by rw [World.frozen?_setCell]; exact h.2⟩
theorem Box.other {W : World} {b c : Nat} {v : Value} (h : Box W b v) (hne : b ≠ c) (u : Value) : Box (W.setCell ⟨c, 0, none⟩ u) b v :=
  h.of (Below.heap_setCell W _ u b hne)
theorem Box.below {C : Nat} {W W' : World} {b : Nat} {v : Value} (h : Box W b v) (k : Below C W W') (hb : b < C) : Box W' b v := h.of (k.block b hb)

/-- all that is not M's lies as it lay -/
def Keep (M : Nat → Prop) (W W' : World) : Prop := W.heap.size ≤ W'.heap.size ∧ ∀ b, b < W.heap.size → ¬ M b → W'.heap[b]? = W.heap[b]?
theorem Keep.refl (M : Nat → Prop) (W : World) : Keep M W W := ⟨Nat.le_refl _, fun _ _ _ => rfl⟩
theorem Keep.trans {M : Nat → Prop} {X Y Z : World} (h : Keep M X Y) (k : Keep M Y Z) : Keep M X Z :=
  ⟨Nat.le_trans h.1 k.1, fun b hb hm => (k.2 b (Nat.lt_of_lt_of_le hb h.1) hm).trans (h.2 b hb hm)⟩
theorem Keep.mono {M M' : Nat → Prop} {X Y : World} (h : Keep M X Y) (k : ∀ b, M b → M' b) : Keep M' X Y := ⟨h.1, fun b hb hm => h.2 b hb fun e => hm (k b e)⟩
theorem Keep.alloc {M : Nat → Prop} {X Y : World} (h : Keep M X Y) (o : Obj) : Keep M X (Y.alloc o) :=
  h.trans ⟨by simp, fun b hb _ => Below.heap_alloc Y o b hb⟩
theorem Keep.drewN {M : Nat → Prop} {X Y : World} (h : Keep M X Y) (k : Nat) : Keep M X (Y.drewN k) := h
theorem Keep.set {M : Nat → Prop} {X Y : World} (h : Keep M X Y) {c : Nat} (hc : M c) (u : Value) : Keep M X (Y.setCell ⟨c, 0, none⟩ u) :=
  h.trans ⟨by simp, fun b _ hm => Below.heap_setCell Y _ u b (fun e => hm (by subst e; exact hc))⟩
theorem Keep.putObj {M : Nat → Prop} {X Y : World} (h : Keep M X Y) {c : Nat} (hc : M c) (o : Obj) : Keep M X (Y.putObj c o) :=
  h.trans ⟨by simp, fun b _ hm => World.putObj_heap_other (fun e => hm (by subst e; exact hc))⟩
theorem Keep.below {M : Nat → Prop} {C : Nat} {X Y : World} (h : Below C X Y) (hC : X.heap.size ≤ C) : Keep M X Y := ⟨h.size, fun b hb _ => h.block b (by omega)⟩
theorem Keep.stay {M : Nat → Prop} {B : Nat} {X Y : World} (h : Stay B X Y) (hC : X.heap.size ≤ B) : Keep M X Y := ⟨h.size, fun b hb _ => h.low b (by omega)⟩
theorem Keep.box {M : Nat → Prop} {X Y : World} {b : Nat} {v : Value} (h : Keep M X Y) (hb : Box X b v) (hm : ¬ M b) : Box Y b v := hb.of (h.2 b hb.lt hm)

/-- J does not mind what an iterator does that was called where B blocks lay -/
def Abide (B : Nat) (J : Nat → World → Prop) : Prop := ∀ x W W', J x W → Stay B W W' → J x W'
theorem Abide.mono {B B' : Nat} {J : Nat → World → Prop} (h : Abide B J) (hB : B ≤ B') : Abide B' J := fun x W W' hj hs => h x W W' hj (hs.mono hB)

theorem yieldAt_any {P : Program} {m m' l : Nat} {args : Array Value} {W : World} {R : Ending → World → Prop} (h : YieldAt Fence.wide m P l args W R) : YieldAt Fence.wide m' P l args W R := by
  obtain ⟨fn, tmps, assign, body, hy, hf, hr⟩ := h
  exact ⟨fn, tmps, assign, body, hy, hf, fun c cs _ => hr c cs (room_wide _)⟩

/-- AN ITERATOR's CONTRACT: the function g with what it holds, lb, made in w: it hands on, of the numbers x below N, rising, those that fit (p x), as 'enc x', as far as it is asked; it reads the blocks T between two rounds. -/
def SeqC (P : Program) (g : Nat) (lb : Array Value) (enc : Nat → Array Value) (N : Nat) (p : Nat → Prop) (T : Nat → Prop) (w : World) : Prop :=
  ∀ (l : Nat) (M : Nat → Prop) (J Jx : Nat → World → Prop) (W : World), Below w.heap.size w W → (∀ b, M b → b < W.heap.size ∧ ¬ T b) → Abide W.heap.size J → Abide W.heap.size Jx →
    (∀ x W1, x < N → ¬ p x → J x W1 → J (x + 1) W1) →
    (∀ x W1, x < N → p x → J x W1 → YieldAt Fence.wide 8 P l (enc x) W1 fun e W' => (e = .returned (.bool true) ∧ J (x + 1) W' ∧ Keep M W1 W') ∨ (e = .returned (.bool false) ∧ Jx x W' ∧ Keep M W1 W')) →
    J 0 W → CallsIn Fence.wide 9 P g (#[.func (.yield l) #[] #[]] ++ lb) W fun e W' => (∃ v, e = .returned v) ∧ (J N W' ∨ ∃ x, x < N ∧ p x ∧ Jx x W')

/-- how a body may be left that met x -/
def postC (M : Nat → Prop) (I : Nat → World → Prop) (Ix : Code → Nat → World → Prop) (x : Nat) (W : World) : Exit → Act → World → Prop
  | .normal, _, W' => Keep M W W' ∧ I (x + 1) W'
  | .ret, _, W' => Keep M W W' ∧ Ix .ret x W'
  | .exit id, _, W' => Keep M W W' ∧ Ix (.exit id) x W'
  | .goto t, _, W' => Keep M W W' ∧ Ix (.goto t) x W'
  | .panic _, _, _ => False
  | .outgrown, _, _ => False

theorem rangeC {P : Program} {g : Operand} {ps : Array Tmp} {assign body : Code} {Q : Exit → Act → World → Prop} {a : Act} {w : World} {n : Nat}
    {gf : Nat} {lb : Array Value} (hg : a.eval g = .func (.func gf) #[] lb) (eg : ∀ args w, (callFunc gf args).run P w = .ok (.enter gf args) w)
    {enc : Nat → Array Value} {N : Nat} {p T : Nat → Prop} (hseq : SeqC P gf lb enc N p T w) (hps : ∀ x, (enc x).size = ps.size)
    (M : Nat → Prop) (hM : ∀ b, M b → b < w.heap.size ∧ ¬ T b) (hT : ∀ b, T b → b < w.heap.size) (I : Nat → World → Prop) (Ix : Code → Nat → World → Prop) (hI : Abide w.heap.size I) (hIx : ∀ c, Abide w.heap.size (Ix c)) (h0 : I 0 w)
    (hskip : ∀ x W, x < N → ¬ p x → I x W → I (x + 1) W)
    (hround : ∀ (l x : Nat) (W W2 : World), x < N → p x → I x W2 →
      assign.wpIn (Fence.wide.inRound l) 8 P (Exit.then (fun a' W' => W' = W ∧ body.wpIn (Fence.wide.inRound l) 8 P (postC M I Ix x W2) a' W2) (fun _ _ _ => False)) { tmps := (ps.zip (enc x)).foldl (fun t (p, v) => t.setIfInBounds p v) a.tmps, defers := [] } W)
    (hdone : ∀ (D : Nat) (W : World), w.heap.size ≤ D → I N W → W.heap[D]? = some (.deferred (some [])) → Q .normal { a with defers := { target := .collected D, args := #[] } :: a.defers } W)
    (hstop : ∀ (D : Nat) (c : Code) (x : Nat) (W : World), w.heap.size ≤ D → x < N → p x → Ix c x W → W.heap[D]? = some (.deferred (some [])) → c.wpIn Fence.wide n P Q { a with defers := { target := .collected D, args := #[] } :: a.defers } W) :
    (Code.rangeFunc g ps assign body).wpIn Fence.wide n P Q a w := by
  refine wpIn_rangeFunc fun fn hfn => ?_
  -- the record, by its state and what is pending; where the iterator begins
  obtain ⟨R, hR⟩ : ∃ R : LoopState → Option Code → Obj, R = fun st pe => Obj.loop { state := st, pending := pe, fn, tmps := a.tmps, params := ps, assign, body, defers := w.heap.size } := ⟨_, rfl⟩
  have hcR : ∀ st pe, (R st pe).isCells = false := fun st pe => by rw [hR]; rfl
  have r1 : (w.alloc (.deferred (some []))).heap.size = w.heap.size + 1 := by simp
  obtain ⟨V, hV⟩ : ∃ V, V = (w.alloc (.deferred (some []))).alloc (R .ready none) := ⟨_, rfl⟩
  have sV : V.heap.size = w.heap.size + 2 := by rw [hV]; simp
  have st0 : Stay w.heap.size w V := by rw [hV]; exact (Stay.alloc _ w _ (Nat.le_refl _)).trans (Stay.alloc _ _ _ (by rw [r1]; omega))
  have bV : Below w.heap.size w V := below_stay (Below.refl _ _) st0 (Nat.le_refl _)
  have lV : V.heap[w.heap.size + 1]? = some (R .ready none) := by rw [hV, ← r1]; exact World.alloc_heap_new _ _
  have dV : V.heap[w.heap.size]? = some (.deferred (some [])) := by rw [hV]; exact (Below.heap_alloc _ _ _ (by rw [r1]; omega)).trans (World.alloc_heap_new w _)
  refine ⟨w.heap.size + 1, [{ target := .collected w.heap.size, args := #[] }], V, { target := .fn (.func gf) lb, args := #[.func (.yield (w.heap.size + 1)) #[] #[]] }, V, gf,
    #[.func (.yield (w.heap.size + 1)) #[] #[]] ++ lb, V, ?_, ?_, fun _ _ => trivial, ?_, (fun h => by cases h), ?_⟩
  · rw [hV, hR]; exact run_enterLoop_outer _ _ _ _ _
  · simp only [resolve, hg]; simp [go_sem]
  · simp [invoke, go_sem, eg]
  -- the books: the record and the block for deferred calls, beside the caller's word
  have books : ∀ (X : Nat → World → Prop) (o : Obj), o.isCells = false → Abide w.heap.size X → Abide V.heap.size (fun x W => X x W ∧ W.heap[w.heap.size + 1]? = some o ∧ W.heap[w.heap.size]? = some (.deferred (some []))) := by
    rintro X o _ hX x A B ⟨hx, hl, hd⟩ hs
    exact ⟨hX x A B hx (hs.mono (by omega)), (hs.low _ (by omega)).trans hl, (hs.low _ (by omega)).trans hd⟩
  have hcall := hseq (w.heap.size + 1) (fun b => M b ∨ b = w.heap.size + 1)
    (fun x W => I x W ∧ W.heap[w.heap.size + 1]? = some (R .ready none) ∧ W.heap[w.heap.size]? = some (.deferred (some [])))
    (fun x W => ∃ c, Ix c x W ∧ W.heap[w.heap.size + 1]? = some (R .done (some c)) ∧ W.heap[w.heap.size]? = some (.deferred (some [])))
    V bV (by rintro b (hb | rfl); · exact ⟨by have := (hM b hb).1; omega, (hM b hb).2⟩
             · exact ⟨by omega, fun h => by have := hT _ h; omega⟩)
    (books I _ (hcR _ _) hI)
    (by rintro x A B ⟨c, hc⟩ hs; exact ⟨c, books (Ix c) _ (hcR _ _) (hIx c) x A B hc hs⟩)
    (by rintro x W1 hx hp ⟨hi, hl, hd⟩; exact ⟨hskip x W1 hx hp hi, hl, hd⟩)
    (by
      rintro x W hx hp ⟨hi, hl, hd⟩
      have hlt : w.heap.size + 1 < W.heap.size := (Array.getElem?_eq_some_iff.1 hl).1
      have hl' := hl
      rw [hR] at hl'
      refine ⟨fn, _, assign, body, run_yield (P := P) (args := enc x) hl' (hps x), roundIn_of_wpIn hfn ?_⟩
      -- the record is busy
      obtain ⟨W2, hW2⟩ : ∃ W2, W2 = W.putObj (w.heap.size + 1) (R .busy none) := ⟨_, rfl⟩
      have sW2 : Stay w.heap.size W W2 := by rw [hW2]; exact Stay.putObj _ hl (hcR _ _) (by omega)
      have kW2 : Keep (fun b => M b ∨ b = w.heap.size + 1) W W2 := by rw [hW2]; exact (Keep.refl _ _).putObj (.inr rfl) _
      have lW2 : W2.heap[w.heap.size + 1]? = some (R .busy none) := by rw [hW2]; exact World.putObj_heap_same hlt
      have dW2 : W2.heap[w.heap.size]? = some (.deferred (some [])) := by rw [hW2]; exact (World.putObj_heap_other (by omega)).trans hd
      have e2 : W.putObj (w.heap.size + 1) (.loop { state := .busy, pending := none, fn, tmps := a.tmps, params := ps, assign, body, defers := w.heap.size }) = W2 := by rw [hW2, hR]
      -- a round's end
      have fin : ∀ (j : Option Code) (W3 : World), Keep M W2 W3 → ∃ W4, (Instr.endRound (w.heap.size + 1) j).run P W3 = .ok (.bool j.isNone) W4 ∧ Stay w.heap.size W3 W4 ∧ Keep (fun b => M b ∨ b = w.heap.size + 1) W W4 ∧
          W4.heap[w.heap.size + 1]? = some (R (if j.isNone then .ready else .done) j) ∧ W4.heap[w.heap.size]? = some (.deferred (some [])) := by
        intro j W3 k3
        have h2 : w.heap.size + 1 < W2.heap.size := (Array.getElem?_eq_some_iff.1 lW2).1
        have l3 : W3.heap[w.heap.size + 1]? = some (R .busy none) := (k3.2 _ h2 (fun h => by have := (hM _ h).1; omega)).trans lW2
        have d3 : W3.heap[w.heap.size]? = some (.deferred (some [])) := (k3.2 _ (by omega) (fun h => by have := (hM _ h).1; omega)).trans dW2
        have l3' := l3
        rw [hR] at l3'
        refine ⟨_, run_endRound (P := P) j l3', Stay.putObj _ l3 (hcR _ _) (by omega), (kW2.trans (k3.mono fun _ h => .inl h)).putObj (.inr rfl) _, ?_, (World.putObj_heap_other (by omega)).trans d3⟩
        rw [World.putObj_heap_same (Array.getElem?_eq_some_iff.1 l3).1, hR]
      refine wpIn_mono (hround (w.heap.size + 1) x W W2 hx hp (hI x _ _ hi sW2)) ?_
      rintro e1 a' W1 he1
      have hn : e1 = .normal ∧ W1 = W ∧ body.wpIn (Fence.wide.inRound (w.heap.size + 1)) 8 P (postC M I Ix x W2) a' W2 := by
        cases e1 with
        | normal => exact ⟨rfl, he1.1, he1.2⟩
        | _ => exact he1.elim
      obtain ⟨rfl, rfl, hb⟩ := hn
      refine ⟨W2, ?_, wpIn_mono hb ?_⟩
      · rw [← e2]; exact run_beginRound hl' rfl
      rintro e a3 W3 hpost
      cases e with
      | normal =>
        obtain ⟨W4, hr, s4, k4, l4, d4⟩ := fin none W3 hpost.1
        exact ⟨_, _, hr, .inl ⟨rfl, ⟨hI _ _ _ hpost.2 s4, l4, d4⟩, k4⟩⟩
      | ret =>
        obtain ⟨W4, hr, s4, k4, l4, d4⟩ := fin (some .ret) W3 hpost.1
        exact ⟨_, _, hr, .inr ⟨rfl, ⟨_, hIx _ _ _ _ hpost.2 s4, l4, d4⟩, k4⟩⟩
      | exit id =>
        obtain ⟨W4, hr, s4, k4, l4, d4⟩ := fin (some (.exit id)) W3 hpost.1
        exact ⟨_, _, hr, .inr ⟨rfl, ⟨_, hIx _ _ _ _ hpost.2 s4, l4, d4⟩, k4⟩⟩
      | goto t =>
        obtain ⟨W4, hr, s4, k4, l4, d4⟩ := fin (some (.goto t)) W3 hpost.1
        exact ⟨_, _, hr, .inr ⟨rfl, ⟨_, hIx _ _ _ _ hpost.2 s4, l4, d4⟩, k4⟩⟩
      | panic ch => exact hpost.elim
      | outgrown => exact hpost.elim)
    ⟨hI _ _ _ h0 st0, lV, dV⟩
  refine (callsIn_wide.2 (callsIn_wide.1 hcall)).mono ?_
  -- behind the iterator
  rintro e W ⟨⟨v, rfl⟩, (⟨hi, hl, hd⟩ | ⟨x, hx, hp, c, hi, hl, hd⟩)⟩
  · have hl' := hl
    rw [hR] at hl'
    exact ⟨none, _, run_endLoop (P := P) hl' (by simp), hdone _ _ (Nat.le_refl _) (hI _ _ _ hi (Stay.putObj _ hl (hcR _ _) (by omega))) ((World.putObj_heap_other (by omega)).trans hd)⟩
  · have hl' := hl
    rw [hR] at hl'
    exact ⟨some c, _, run_endLoop (P := P) hl' (by simp), hstop _ c x _ (Nat.le_refl _) hx hp (hIx _ _ _ _ hi (Stay.putObj _ hl (hcR _ _) (by omega))) ((World.putObj_heap_other (by omega)).trans hd)⟩

/-- a function that ranged over another one leaves: its result stands in a box, which is written last; the block for the rounds' deferred calls is shut -/
theorem leaves {n B D : Nat} {w W : World} {v u : Value} (hb : Box W B v) (hK : W.heap[D]? = some (.deferred (some []))) (hB : n ≤ B) (hD : n ≤ D) (hne : B ≠ D) (h : Below n w W) :
    (W.setCell ⟨B, 0, none⟩ u).heap[D]? = some (.deferred (some [])) ∧ ((W.setCell ⟨B, 0, none⟩ u).putObj D (.deferred none)).cell? ⟨B, 0, none⟩ = some u ∧ Below n w ((W.setCell ⟨B, 0, none⟩ u).putObj D (.deferred none)) := by
  have k1 : (W.setCell ⟨B, 0, none⟩ u).heap[D]? = some (.deferred (some [])) := (Below.heap_setCell W _ u D (fun e => hne e.symm)).trans hK
  have s1 : Stay D (W.setCell ⟨B, 0, none⟩ u) ((W.setCell ⟨B, 0, none⟩ u).putObj D (.deferred none)) := Stay.putObj _ k1 rfl (Nat.le_refl _)
  exact ⟨k1, ((hb.set u).stay s1).1, below_stay (h.setCell (p := ⟨B, 0, none⟩) hB u) s1 hD⟩

/-- a function without results that ranged over others, once and again, leaves: each block for deferred calls is shut -/
theorem leaves_all {n : Nat} {P : Program} {fn : Func} {tmps : Array Value} {R : Ending → World → Prop} {B : Nat} (hfn : fn.results = #[]) (hR : ∀ W W', R (.returned (.tuple #[])) W → Stay B W W' → R (.returned (.tuple #[])) W') :
    ∀ (ds : List Nat) (W : World), ds.Nodup → (∀ D ∈ ds, B ≤ D ∧ W.heap[D]? = some (.deferred (some []))) → R (.returned (.tuple #[])) W → LeavesInM Fence.wide n P fn tmps R (ds.map fun D => { target := .collected D, args := #[] }) .returning W
  | [], W, _, _, h => ⟨_, results_none hfn _ _ _, h⟩
  | D :: ds, W, hnd, hd, h => by
    have h0 := hd D (by simp)
    have hnd' := List.nodup_cons.1 hnd
    refine ⟨by simp, .inl ⟨D, _, rfl, run_takeDeferred h0.2, ?_⟩⟩
    refine leaves_all hfn hR ds _ hnd'.2 (fun E hE => ?_) (hR _ _ h (Stay.putObj _ h0.2 rfl h0.1))
    have hE' := hd E (by simp [hE])
    exact ⟨hE'.1, (World.putObj_heap_other (fun e => hnd'.1 (by cases e; exact hE))).trans hE'.2⟩

end Go.Proofs.Ytcpjmfemgdgplaa

/-
  Arrays of integers by value: blocks that hold one, copies between them, arrays held against one another.
-/
namespace Go.Proofs.Ytcpjmfemgdgplaa
open Go.RowKit
attribute [local go_sem] Oper.semAt_some

theorem ints_congr (k : IntKind) (n : Nat) (F G : Nat → Int) (h : ∀ i, i < n → F i = G i) : ints k n F = ints k n G := by
  unfold ints
  refine List.map_congr_left fun i hi => ?_
  rw [h i (List.mem_range.1 hi)]
theorem ints_inj (k : IntKind) (n : Nat) (F G : Nat → Int) (h : ints k n F = ints k n G) : ∀ i, i < n → F i = G i := by
  intro i hi
  have e := ints_at k n F i hi
  rw [h, ints_at k n G i hi] at e
  simp only [Option.some.injEq, Value.int.injEq, true_and] at e
  exact e.symm
theorem ints_one (k : IntKind) (n : Nat) (F : Nat → Int) : (ints k n F).toArray.all (·.oneCell') = true := by
  refine all_oneCell_toArray fun v hv => ?_
  obtain ⟨i, _, rfl⟩ := List.mem_map.1 hv
  rfl
theorem ints_one' (k : IntKind) (n : Nat) (F : Nat → Int) : ∀ v ∈ ints k n F, v.oneCell' = true := by
  intro v hv
  obtain ⟨i, _, rfl⟩ := List.mem_map.1 hv
  rfl

/-- block b is n integers of the kind k, no more -/
def Bk (k : IntKind) (W : World) (b n : Nat) (F : Nat → Int) : Prop := ∃ t, W.heap[b]? = some (.cells (ints k n F).toArray t (0, 0))
theorem rows_put {b : Nat} {t : TypeId} {m : Nat} : ∀ (vs : List Value) (o : Nat) (W : World) (f : Nat → Value), W.rowIs b t m f → (W.setCells b o vs).rowIs b t m (fun j => if o ≤ j ∧ j < o + vs.length then vs[j - o]?.getD default else f j)
  | [], o, W, f, h => h.congr (fun j _ => by rw [if_neg (by simp)])
  | v :: r, o, W, f, h => by
    refine (rows_put r (o + 1) _ _ (h.set o v)).congr (fun j _ => ?_)
    by_cases h1 : j = o
    · subst h1
      rw [if_neg (by omega), if_pos rfl, if_pos (by simp), Nat.sub_self]
      rfl
    · by_cases h2 : o + 1 ≤ j ∧ j < o + 1 + r.length
      · rw [if_pos h2, if_pos (by simp; omega), show j - o = (j - (o + 1)) + 1 by omega, List.getElem?_cons_succ]
      · rw [if_neg h2, if_neg h1, if_neg (by simp; omega)]
theorem heap_puts (c : Nat) : ∀ (vs : List Value) (o : Nat) (W : World) (k : Nat), k ≠ c → (W.setCells c o vs).heap[k]? = W.heap[k]?
  | [], _, _, _, _ => rfl
  | v :: vs, o, W, k, h => (heap_puts c vs (o + 1) _ k h).trans (Below.heap_setCell W ⟨c, o, none⟩ v k h)
theorem belows_put {B b : Nat} (hb : B ≤ b) : ∀ (vs : List Value) (o : Nat) {a w : World}, Below B a w → Below B a (w.setCells b o vs)
  | [], _, _, _, h => h
  | v :: vs, o, _, _, h => belows_put hb vs (o + 1) (h.setCell (p := ⟨b, o, none⟩) hb v)
section
variable {k : IntKind} {W W' : World} {b n : Nat} {F G : Nat → Int}
theorem Bk.new (k : IntKind) (W : World) (n : Nat) (F : Nat → Int) (t : TypeId) : Bk k (W.alloc (.cells (ints k n F).toArray t)) W.heap.size n F := ⟨t, World.alloc_heap_new W _⟩
theorem Bk.of (h : Bk k W b n F) (e : W'.heap[b]? = W.heap[b]?) : Bk k W' b n F := by
  obtain ⟨t, h⟩ := h
  exact ⟨t, e.trans h⟩
theorem Bk.lt (h : Bk k W b n F) : b < W.heap.size := by
  obtain ⟨t, h⟩ := h
  exact (Array.getElem?_eq_some_iff.1 h).1
theorem Bk.alloc (h : Bk k W b n F) (o : Obj) : Bk k (W.alloc o) b n F := h.of (Below.heap_alloc W o b h.lt)
theorem Bk.below {C : Nat} (h : Bk k W b n F) (e : Below C W W') (hb : b < C) : Bk k W' b n F := h.of (e.block b hb)
theorem Bk.next (h : Bk k W b n F) (e : Below W.heap.size W W') : Bk k W' b n F := h.below e h.lt
theorem Bk.stay {B : Nat} (h : Bk k W b n F) (e : Stay B W W') : Bk k W' b n F := by
  obtain ⟨t, h⟩ := h
  exact ⟨t, e.cells _ _ h rfl⟩
theorem Bk.keep {M : Nat → Prop} (h : Bk k W b n F) (e : Keep M W W') (hm : ¬ M b) : Bk k W' b n F := h.of (e.2 b h.lt hm)
theorem Bk.drewN (h : Bk k W b n F) (j : Nat) : Bk k (W.drewN j) b n F := h
theorem Bk.drew (h : Bk k W b n F) : Bk k W.drew b n F := h
theorem Bk.row (h : Bk k W b n F) : ∃ t, W.rowIs b t n (fun i => .int k (F i)) := by
  obtain ⟨t, h⟩ := h
  refine ⟨t, _, h, by simp [ints_len], fun i hi => ?_⟩
  simpa using ints_at k n F i hi
theorem Bk.ofRow {t : TypeId} (h : W.rowIs b t n (fun i => .int k (F i))) : Bk k W b n F := by
  obtain ⟨c, h1, h2, h3⟩ := h
  refine ⟨t, ?_⟩
  rw [h1]
  have : c = (ints k n F).toArray := by
    refine Array.ext_getElem? fun i => ?_
    by_cases hi : i < n
    · rw [h3 i hi]; simpa using (ints_at k n F i hi).symm
    · rw [Array.getElem?_eq_none (by omega), Array.getElem?_eq_none (by simp [ints_len]; omega)]
  rw [this]
theorem Bk.cell (h : Bk k W b n F) (i : Nat) (hi : i < n) : W.cell? ⟨b, i, none⟩ = some (.int k (F i)) := by
  obtain ⟨t, h⟩ := h
  rw [cell_of_row _ _ i _ _ (0, 0) h]
  simpa using ints_at k n F i hi
theorem Bk.free (h : Bk k W b n F) (i : Nat) : W.frozen? ⟨b, i, none⟩ = false := by
  obtain ⟨t, h⟩ := h.row
  exact h.frozen i
theorem Bk.range (h : Bk k W b n F) : W.rangeAt b 0 (ints k n F) := fun j v hv => by
  have hj : j < n := by have := (List.getElem?_eq_some_iff.1 hv).1; rw [ints_len] at this; exact this
  rw [ints_at k n F j hj] at hv
  cases hv
  rw [Nat.zero_add]; exact h.cell j hj
theorem Bk.there (h : Bk k W b n F) (k' : IntKind) (G : Nat → Int) : W.there b 0 (ints k' n G).toArray.size := by
  rw [show (ints k' n G).toArray.size = n from by simp [ints_len]]
  intro j hj
  rw [Nat.zero_add, h.cell j hj]; exact ⟨rfl, h.free j⟩
theorem Bk.set (h : Bk k W b n F) (i : Nat) (e : Int) : Bk k (W.setCell ⟨b, i, none⟩ (.int k e)) b n (fun j => if j = i then e else F j) := by
  obtain ⟨t, h⟩ := h.row
  refine Bk.ofRow (t := t) ((h.set i _).congr fun j _ => ?_)
  by_cases hj : j = i
  · simp [hj]
  · simp [hj]
theorem Bk.other (h : Bk k W b n F) {c : Nat} (hc : b ≠ c) (i : Nat) (v : Value) : Bk k (W.setCell ⟨c, i, none⟩ v) b n F := h.of (Below.heap_setCell W ⟨c, i, none⟩ v b hc)
theorem Bk.congr (h : Bk k W b n F) (e : ∀ i, i < n → F i = G i) : Bk k W b n G := by
  obtain ⟨t, h⟩ := h
  exact ⟨t, by rw [← ints_congr k n F G e]; exact h⟩
theorem Bk.put (h : Bk k W b n F) (G : Nat → Int) : Bk k (W.setCells b 0 (ints k n G)) b n G := by
  obtain ⟨t, h⟩ := h.row
  refine Bk.ofRow (t := t) ((rows_put _ 0 W _ h).congr fun j hj => ?_)
  rw [if_pos (by rw [ints_len]; omega), Nat.sub_zero, ints_at k n G j hj]
  rfl
theorem Bk.putAt (h : Bk k W b n F) (o m : Nat) (G : Nat → Int) : Bk k (W.setCells b o (ints k m G)) b n (fun j => if o ≤ j ∧ j < o + m then G (j - o) else F j) := by
  obtain ⟨t, h⟩ := h.row
  refine Bk.ofRow (t := t) ((rows_put _ o W _ h).congr fun j hj => ?_)
  rw [ints_len]
  by_cases h1 : o ≤ j ∧ j < o + m
  · rw [if_pos h1, if_pos h1, ints_at k m G _ (by omega)]; rfl
  · rw [if_neg h1, if_neg h1]
theorem Bk.putOther (h : Bk k W b n F) {c : Nat} (hc : b ≠ c) (o : Nat) (vs : List Value) : Bk k (W.setCells c o vs) b n F := h.of (heap_puts c vs o W b hc)
/-- a part of it -/
theorem Bk.part (h : Bk k W b n F) (o m : Nat) (hm : o + m ≤ n) : W.rangeAt b o (ints k m fun i => F (o + i)) := fun j v hv => by
  have hj : j < m := by have := (List.getElem?_eq_some_iff.1 hv).1; rw [ints_len] at this; exact this
  rw [ints_at k m _ j hj] at hv
  cases hv
  exact h.cell (o + j) (by omega)
theorem Bk.thereAt (h : Bk k W b n F) (o m : Nat) (hm : o + m ≤ n) : W.there b o m := fun j hj => by
  rw [h.cell (o + j) (by omega)]; exact ⟨rfl, h.free _⟩
end

/-- just block g was turned -/
structure Just (g : Nat) (W W' : World) : Prop where
  below : ∀ (B : Nat) (w0 : World), Below B w0 W → B ≤ g → Below B w0 W'
  block : ∀ k, k ≠ g → W'.heap[k]? = W.heap[k]?
/-- k integers of G laid into F from the place o on -/
def lay (F : Nat → Int) (o k : Nat) (G : Nat → Int) (i : Nat) : Int := if o ≤ i ∧ i < o + k then G (i - o) else F i
theorem splice_ints (d : IntKind) (n : Nat) (F : Nat → Int) (o k : Nat) (G : Nat → Int) (h : o + k ≤ n) : splice (ints d n F) o (ints d k G) = ints d n (lay F o k G) := by
  refine List.ext_getElem? fun i => ?_
  by_cases hi : i < n
  · rw [ints_at d n _ i hi]
    unfold splice lay
    by_cases h1 : i < o
    · rw [List.getElem?_append_left (by rw [List.length_take, ints_len]; omega), List.getElem?_take, if_pos h1, ints_at d n F i hi, if_neg (by omega)]
    · rw [List.getElem?_append_right (by rw [List.length_take, ints_len]; omega), List.length_take, ints_len d n, ints_len d k, Nat.min_eq_left (show o ≤ n by omega)]
      by_cases h2 : i < o + k
      · rw [List.getElem?_append_left (by simp [ints_len]; omega), ints_at d k G _ (by omega), if_pos (by omega)]
      · rw [List.getElem?_append_right (by simp [ints_len]; omega), ints_len, List.getElem?_drop, if_neg (by omega), show o + k + (i - o - k) = i from by omega, ints_at d n F i hi]
  · rw [List.getElem?_eq_none (by rw [length_splice _ _ _ (by simp [ints_len]; omega), ints_len]; omega), List.getElem?_eq_none (by rw [ints_len]; omega)]
theorem byte_size : (Try.prog.info? 5).map (·.size) = some 1 := by kernel_rfl

/-- a load of an array that a guard lets by -/
theorem wpList_load_g {P : Program} {ops : Array Oper} {rest : List Oper} {op : Oper} {a : Act} {w : World} {Q : Exit → Act → World → Prop} (hw : Region.wanted op (yielded ops a.tmps) = true) (ty : TypeId) (x : Operand) (ho : op.op = .load ty x)
    (b o : Nat) (hx : a.eval x = .pointer (some ⟨b, o, none⟩)) (cs : List Value) (d : TypeDesc) (hc : w.rangeAt b o cs)
    (hu : P.underlying ty = some d) (hd : d.isRow = true) (hi : (P.info? ty).map (·.size) = some cs.length)
    (h : wpList P ops Q rest (a.put op.dst (.agg cs.toArray)) w) : wpList P ops Q (op :: rest) a w :=
  wpList_step fun K hK => by rw [if_pos hw]; exact wp_load_mid ty x ho b o hx cs d hc hu hd hi (hK _ _ h)

def byts (n : Nat) (F : Nat → Int) : List UInt8 := (List.range n).map fun i => UInt8.ofNat (F i).toNat
theorem byts_len (n : Nat) (F : Nat → Int) : (byts n F).length = n := by simp [byts]
/-- bytes: each from 0 to 255 -/
def Byts (n : Nat) (F : Nat → Int) : Prop := ∀ i, i < n → 0 ≤ F i ∧ F i < 256
theorem byts_ints (n : Nat) (F : Nat → Int) (h : Byts n F) : (byts n F).map Extern.Stop.cell = ints .u8 n F := by
  unfold byts ints
  rw [List.map_map]
  refine List.map_congr_left fun i hi => ?_
  have := h i (List.mem_range.1 hi)
  show Value.int .u8 _ = Value.int .u8 _
  congr 1
  simp
  omega
theorem byts_inj (n : Nat) (F G : Nat → Int) (hF : Byts n F) (hG : Byts n G) (h : byts n F = byts n G) : ∀ i, i < n → F i = G i := by
  refine ints_inj .u8 n F G ?_
  rw [← byts_ints n F hF, ← byts_ints n G hG, h]
theorem byts_congr (n : Nat) (F G : Nat → Int) (h : ∀ i, i < n → F i = G i) : byts n F = byts n G := by
  unfold byts
  refine List.map_congr_left fun i hi => ?_
  rw [h i (List.mem_range.1 hi)]
theorem byts_beq (n : Nat) (F G : Nat → Int) (hF : Byts n F) (hG : Byts n G) (b : Bool) (hb : b = true ↔ ∀ i, i < n → F i = G i) : (byts n F == byts n G) = b := by
  rw [Bool.eq_iff_iff, beq_iff_eq, hb]
  exact ⟨byts_inj n F G hF hG, byts_congr n F G⟩
theorem byte_one (w : World) : (sizeOf 5).run Try.prog w = .ok 1 w := by kernel_rfl
theorem eql_ints (t : TypeId) (n : Nat) (ht : Try.prog.underlying t = some (.array n 5)) (F G : Nat → Int) (hF : Byts n F) (hG : Byts n G) (b : Bool) (hb : b = true ↔ ∀ i, i < n → F i = G i) (w : World) :
    (binOp .eql t (.agg (ints .u8 n F).toArray) (.agg (ints .u8 n G).toArray)).run Try.prog w = .ok (.bool b) w := by
  have h := run_eql_bytes (P := Try.prog) w t 5 n ht Try.underlying5 byte_one (byts n F) (byts n G) (byts_len n F) (byts_len n G)
  rw [byts_ints n F hF, byts_ints n G hG, byts_beq n F G hF hG b hb] at h
  exact h
theorem neq_ints (t : TypeId) (n : Nat) (ht : Try.prog.underlying t = some (.array n 5)) (F G : Nat → Int) (hF : Byts n F) (hG : Byts n G) (b : Bool) (hb : b = true ↔ ∀ i, i < n → F i = G i) (w : World) :
    (binOp .neq t (.agg (ints .u8 n F).toArray) (.agg (ints .u8 n G).toArray)).run Try.prog w = .ok (.bool (!b)) w := by
  have h := run_equalIn_bytes (P := Try.prog) w 9998 t 5 n ht Try.underlying5 byte_one (byts n F) (byts n G) (byts_len n F) (byts_len n G)
  rw [byts_ints n F hF, byts_ints n G hG, byts_beq n F G hF hG b hb] at h
  rw [run_neq_struct, h]; rfl
end Go.Proofs.Ytcpjmfemgdgplaa

/-
  Blocks of values of any kinds: a list of cells.
-/
namespace Go.Proofs.Ytcpjmfemgdgplaa
open Go.RowKit

/-- block b is these cells -/
def Cb (W : World) (b : Nat) (L : List Value) : Prop := ∃ t, W.heap[b]? = some (.cells L.toArray t (0, 0))
/-- a list with another one laid into it -/
def plt (L : List Value) (o : Nat) (vs : List Value) : List Value := (List.range L.length).map fun j => if o ≤ j ∧ j < o + vs.length then vs[j - o]?.getD default else L[j]?.getD default
section
variable {W W' : World} {b : Nat} {L : List Value}
theorem Cb.new (W : World) (L : List Value) (t : TypeId) : Cb (W.alloc (.cells L.toArray t)) W.heap.size L := ⟨t, World.alloc_heap_new W _⟩
theorem Cb.of (h : Cb W b L) (e : W'.heap[b]? = W.heap[b]?) : Cb W' b L := by
  obtain ⟨t, h⟩ := h
  exact ⟨t, e.trans h⟩
theorem Cb.lt (h : Cb W b L) : b < W.heap.size := by
  obtain ⟨t, h⟩ := h
  exact (Array.getElem?_eq_some_iff.1 h).1
theorem Cb.alloc (h : Cb W b L) (o : Obj) : Cb (W.alloc o) b L := h.of (Below.heap_alloc W o b h.lt)
theorem Cb.below {C : Nat} (h : Cb W b L) (e : Below C W W') (hb : b < C) : Cb W' b L := h.of (e.block b hb)
theorem Cb.next (h : Cb W b L) (e : Below W.heap.size W W') : Cb W' b L := h.below e h.lt
theorem Cb.stay {B : Nat} (h : Cb W b L) (e : Stay B W W') : Cb W' b L := by
  obtain ⟨t, h⟩ := h
  exact ⟨t, e.cells _ _ h rfl⟩
theorem Cb.keep {M : Nat → Prop} (h : Cb W b L) (e : Keep M W W') (hm : ¬ M b) : Cb W' b L := h.of (e.2 b h.lt hm)
theorem Cb.drewN (h : Cb W b L) (j : Nat) : Cb (W.drewN j) b L := h
theorem Cb.row (h : Cb W b L) : ∃ t, W.rowIs b t L.length (fun i => L[i]?.getD default) := by
  obtain ⟨t, h⟩ := h
  refine ⟨t, _, h, by simp, fun i hi => ?_⟩
  simp [List.getElem?_eq_getElem hi]
theorem Cb.ofRow {t : TypeId} {n : Nat} {f : Nat → Value} (h : W.rowIs b t n f) : Cb W b ((List.range n).map f) := by
  obtain ⟨c, h1, h2, h3⟩ := h
  refine ⟨t, ?_⟩
  rw [h1]
  have : c = ((List.range n).map f).toArray := by
    refine Array.ext_getElem? fun i => ?_
    by_cases hi : i < n
    · rw [h3 i hi]; simp [hi]
    · rw [Array.getElem?_eq_none (by omega), Array.getElem?_eq_none (by simp; omega)]
  rw [this]
theorem Cb.cell (h : Cb W b L) {i : Nat} {v : Value} (hv : L[i]? = some v) : W.cell? ⟨b, i, none⟩ = some v := by
  obtain ⟨t, h⟩ := h
  rw [cell_of_row _ _ i _ _ (0, 0) h]
  simpa using hv
theorem Cb.free (h : Cb W b L) (i : Nat) : W.frozen? ⟨b, i, none⟩ = false := by
  obtain ⟨t, h⟩ := h.row
  exact h.frozen i
theorem Cb.rangeAt (h : Cb W b L) (o : Nat) (cs : List Value) (hs : (L.drop o).take cs.length = cs) : W.rangeAt b o cs := fun j v hv => by
  refine h.cell ?_
  have hj : j < cs.length := (List.getElem?_eq_some_iff.1 hv).1
  rw [← hs, List.getElem?_take, if_pos hj, List.getElem?_drop] at hv
  exact hv
theorem Cb.range (h : Cb W b L) : W.rangeAt b 0 L := h.rangeAt 0 L (by simp)
theorem Cb.thereAt (h : Cb W b L) (o m : Nat) (hm : o + m ≤ L.length) : W.there b o m := fun j hj => by
  rw [h.cell (i := o + j) (List.getElem?_eq_getElem (by omega))]; exact ⟨rfl, h.free _⟩
theorem Cb.set (h : Cb W b L) (i : Nat) (v : Value) : Cb (W.setCell ⟨b, i, none⟩ v) b (L.set i v) := by
  obtain ⟨t, h⟩ := h.row
  have h2 := Cb.ofRow (h.set i v)
  have e : (List.range L.length).map (fun j => if j = i then v else L[j]?.getD default) = L.set i v := by
    refine List.ext_getElem? fun j => ?_
    by_cases hj : j < L.length
    · by_cases hji : j = i
      · subst hji; simp [hj]
      · rw [List.getElem?_set_ne (fun e => hji e.symm)]
        simp [hj, hji]
    · rw [List.getElem?_eq_none (by simp; omega), List.getElem?_eq_none (by simp; omega)]
  rwa [← e]
theorem Cb.put (h : Cb W b L) (o : Nat) (vs : List Value) : Cb (W.setCells b o vs) b (plt L o vs) := by
  obtain ⟨t, h⟩ := h.row
  exact Cb.ofRow (rows_put vs o W _ h)
theorem Cb.other (h : Cb W b L) {c : Nat} (hc : b ≠ c) (i : Nat) (v : Value) : Cb (W.setCell ⟨c, i, none⟩ v) b L := h.of (Below.heap_setCell W ⟨c, i, none⟩ v b hc)
theorem Cb.putOther (h : Cb W b L) {c : Nat} (hc : b ≠ c) (o : Nat) (vs : List Value) : Cb (W.setCells c o vs) b L := h.of (heap_puts c vs o W b hc)
theorem Cb.to {L' : List Value} (h : Cb W b L) (e : L = L') : Cb W b L' := e ▸ h
theorem Bk.cb {k : IntKind} {n : Nat} {F : Nat → Int} (h : Bk k W b n F) : Cb W b (ints k n F) := h
theorem Cb.bk {k : IntKind} {n : Nat} {F : Nat → Int} (h : Cb W b (ints k n F)) : Bk k W b n F := h
end
end Go.Proofs.Ytcpjmfemgdgplaa

/-
  Plain mathematics of layer 3: the weight of a number, by dividing; what the eight steps of a count of ones make of it; sums, and what is left of a word when its lowest one is taken.
-/
namespace Go.Proofs.Ytcpjmfemgdgplaa.Bm
open Go Go.RowKit

/-- how many of the lowest k bits of x are ones -/
def wtK : Nat → Nat → Nat
  | 0, _ => 0
  | k + 1, x => x % 2 + wtK k (x / 2)
/-- the weight of a word of at most 64 bits -/
def wt (x : Nat) : Nat := wtK 64 x

theorem wtK_zero (k : Nat) : wtK k 0 = 0 := by induction k with
  | zero => rfl
  | succ k ih => simp [wtK, ih]
theorem wtK_le (k x : Nat) : wtK k x ≤ k := by
  induction k generalizing x with
  | zero => simp [wtK]
  | succ k ih => have := ih (x / 2); simp only [wtK]; omega
theorem wtK_add (a b x : Nat) : wtK (a + b) x = wtK a x + wtK b (x / 2 ^ a) := by
  induction a generalizing x with
  | zero => simp [wtK]
  | succ a ih =>
    rw [show a + 1 + b = (a + b) + 1 from by omega]
    simp only [wtK, ih, Nat.div_div_eq_div_mul]
    rw [show 2 * 2 ^ a = 2 ^ (a + 1) from by rw [Nat.pow_succ]; omega]
    omega
theorem wtK_succ_hi (k x : Nat) : wtK (k + 1) x = wtK k x + x / 2 ^ k % 2 := by
  rw [wtK_add]; simp [wtK]
theorem wtK_mod (k x : Nat) : wtK k (x % 2 ^ k) = wtK k x := by
  induction k generalizing x with
  | zero => rfl
  | succ k ih =>
    simp only [wtK]
    have e1 : x % 2 ^ (k + 1) % 2 = x % 2 := Nat.mod_mod_of_dvd x ⟨2 ^ k, by rw [Nat.pow_succ]; omega⟩
    have e2 : x % 2 ^ (k + 1) / 2 = x / 2 % 2 ^ k := by
      rw [Nat.pow_succ, Nat.mul_comm, Nat.mod_mul_right_div_self]
    rw [e1, e2, ih]
theorem wtK_big (k j x : Nat) (h : x < 2 ^ k) : wtK (k + j) x = wtK k x := by
  rw [wtK_add, Nat.div_eq_of_lt h, wtK_zero]; omega
theorem wtK_wt (k x : Nat) (hk : k ≤ 64) (h : x < 2 ^ k) : wtK k x = wt x := by
  have := wtK_big k (64 - k) x h
  rw [show k + (64 - k) = 64 from by omega] at this
  exact this.symm
theorem wt_step (x : Nat) (h : x < 18446744073709551616) : wt x = x % 2 + wt (x / 2) := by
  have e : wt (x / 2) = wtK 63 (x / 2) := by
    have := wtK_big 63 1 (x / 2) (by omega)
    exact this
  rw [e]; rfl
theorem wt_zero : wt 0 = 0 := wtK_zero 64
theorem wt_le (x : Nat) : wt x ≤ 64 := wtK_le 64 x

/-! ### a count of ones by eight steps -/
theorem and_split (a m c : Nat) (hc : c < 256) : a &&& (256 * m + c) = 256 * (a / 256 &&& m) + (a % 256 &&& c) := by
  have h1 : (a &&& (256 * m + c)) / 2 ^ 8 = a / 2 ^ 8 &&& (256 * m + c) / 2 ^ 8 := by rw [Nat.and_div_two_pow]
  have h2 : (a &&& (256 * m + c)) % 2 ^ 8 = a % 2 ^ 8 &&& (256 * m + c) % 2 ^ 8 := by rw [Nat.and_mod_two_pow]
  have e1 : (256 * m + c) / 2 ^ 8 = m := by omega
  have e2 : (256 * m + c) % 2 ^ 8 = c := by omega
  rw [e1] at h1; rw [e2] at h2
  have := Nat.div_add_mod (a &&& (256 * m + c)) (2 ^ 8)
  rw [h1, h2] at this
  exact this.symm
/-- k bytes c -/
def mk (c : Nat) : Nat → Nat
  | 0 => 0
  | k + 1 => 256 * mk c k + c
def s1 (k x : Nat) : Nat := (x / 2 &&& mk 85 k) + (x &&& mk 85 k)
def s2 (k x : Nat) : Nat := (x / 4 &&& mk 51 k) + (x &&& mk 51 k)
def s3 (k x : Nat) : Nat := (x / 16 + x) &&& mk 15 k
def t1 (c : Nat) : Nat := (c / 2 &&& 85) + (c &&& 85)
def t2 (c : Nat) : Nat := (c / 4 &&& 51) + (c &&& 51)
theorem c1 : ∀ r < 512, r / 2 % 256 &&& 85 = r % 256 / 2 &&& 85 := by decide +kernel
theorem c2 : ∀ r < 1024, r / 4 % 256 &&& 51 = r % 256 / 4 &&& 51 := by decide +kernel
theorem b1 : ∀ r < 256, t1 r < 256 := by decide +kernel
theorem b2 : ∀ r < 256, t2 (t1 r) < 69 ∧ t2 (t1 r) % 16 < 5 := by decide +kernel
theorem p8 : ∀ r < 256, (t2 (t1 r) / 16 + t2 (t1 r)) % 16 = wtK 8 r := by decide +kernel
theorem s1_step (k x : Nat) : s1 (k + 1) x = 256 * s1 k (x / 256) + t1 (x % 256) := by
  unfold s1 t1
  rw [show mk 85 (k + 1) = 256 * mk 85 k + 85 from rfl, and_split _ _ _ (by decide), and_split x _ _ (by decide)]
  have e := c1 (x % 512) (by omega)
  rw [show x % 512 / 2 % 256 = x / 2 % 256 from by omega, show x % 512 % 256 = x % 256 from by omega] at e
  rw [e, show x / 2 / 256 = x / 256 / 2 from by omega]
  omega
theorem s2_step (k x : Nat) : s2 (k + 1) x = 256 * s2 k (x / 256) + t2 (x % 256) := by
  unfold s2 t2
  rw [show mk 51 (k + 1) = 256 * mk 51 k + 51 from rfl, and_split _ _ _ (by decide), and_split x _ _ (by decide)]
  have e := c2 (x % 1024) (by omega)
  rw [show x % 1024 / 4 % 256 = x / 4 % 256 from by omega, show x % 1024 % 256 = x % 256 from by omega] at e
  rw [e, show x / 4 / 256 = x / 256 / 4 from by omega]
  omega
/-- the bytes of the first two steps, one by one -/
def y2 (k x : Nat) : Nat := s2 k (s1 k x)
theorem y2_step (k x : Nat) : y2 (k + 1) x = 256 * y2 k (x / 256) + t2 (t1 (x % 256)) := by
  have h := b1 (x % 256) (by omega)
  unfold y2
  rw [s1_step, s2_step]
  rw [show (256 * s1 k (x / 256) + t1 (x % 256)) / 256 = s1 k (x / 256) from by omega, show (256 * s1 k (x / 256) + t1 (x % 256)) % 256 = t1 (x % 256) from by omega]
theorem y2_low (k x : Nat) : y2 k x % 16 < 5 := by
  cases k with
  | zero => simp [y2, s2, s1, mk]
  | succ k => have := b2 (x % 256) (by omega); rw [y2_step]; omega
theorem s3_step (k q c : Nat) (hc : c < 69) (_hc' : c % 16 < 5) (hq : q % 16 < 5) : s3 (k + 1) (256 * q + c) = 256 * s3 k q + (c / 16 + c) % 16 := by
  unfold s3
  rw [show mk 15 (k + 1) = 256 * mk 15 k + 15 from rfl, and_split _ _ _ (by decide)]
  rw [show ((256 * q + c) / 16 + (256 * q + c)) / 256 = q / 16 + q from by omega, nat_mask4]
  omega
def y3 (k x : Nat) : Nat := s3 k (y2 k x)
theorem y3_step (k x : Nat) : y3 (k + 1) x = 256 * y3 k (x / 256) + wtK 8 (x % 256) := by
  have h := b2 (x % 256) (by omega)
  unfold y3
  rw [y2_step, s3_step _ _ _ h.1 h.2 (y2_low _ _), p8 _ (by omega)]
theorem wtK8 (k x : Nat) : wtK (8 + k) x = wtK 8 (x % 256) + wtK k (x / 256) := by
  rw [wtK_add, ← wtK_mod 8 x]
/-- what the last four steps make of eight bytes -/
theorem low (x r q : Nat) (h : x = r + 256 * q) (hr : r ≤ 64) : x / 256 = q ∧ x % 128 = r % 128 := by omega
theorem le2 {a b : Nat} (ha : a ≤ 8) (hb : b ≤ 8) : a + b ≤ 64 := by omega
theorem le4 {a b c d : Nat} (ha : a ≤ 8) (hb : b ≤ 8) (hc : c ≤ 8) (hd : d ≤ 8) : a + b + (c + d) ≤ 64 := by omega
theorem le8 {a b c d e f g h : Nat} (ha : a ≤ 8) (hb : b ≤ 8) (hc : c ≤ 8) (hd : d ≤ 8) (he : e ≤ 8) (hf : f ≤ 8) (hg : g ≤ 8) (hh : h ≤ 8) : a + b + (c + d) + (e + f + (g + h)) ≤ 64 := by omega
theorem up (x r q N M : Nat) (h : x = r + 256 * q) (hr : r ≤ 8) (hq : q ≤ N) (hM : 8 + 256 * N ≤ M) : x ≤ M := by omega
theorem two (X x Y y r s q p : Nat) (hX : X = x) (hY : Y = y) (h : x = r + 256 * q) (k : y = s + 256 * p) : X + Y = (r + s) + 256 * (q + p) := by omega
theorem six {Y g h : Nat} (h6 : Y = g + 256 * h) : Y + h = (g + h) + 256 * h := by omega
theorem fold8 (a b c d e f g h Y0 Y1 Y2 Y3 Y4 Y5 Y6 : Nat) (ha : a ≤ 8) (hb : b ≤ 8) (hc : c ≤ 8) (hd : d ≤ 8) (he : e ≤ 8) (hf : f ≤ 8) (hg : g ≤ 8) (hh : h ≤ 8)
    (h0 : Y0 = a + 256 * Y1) (h1 : Y1 = b + 256 * Y2) (h2 : Y2 = c + 256 * Y3) (h3 : Y3 = d + 256 * Y4) (h4 : Y4 = e + 256 * Y5) (h5 : Y5 = f + 256 * Y6) (h6 : Y6 = g + 256 * h)
    (u v z : Nat) (hu : u = Y0 + Y0 / 256) (hv : v = u + u / 65536) (hz : z = v + v / 4294967296) :
    z < 4611686018427387904 ∧ u < 4611686018427387904 ∧ v < 4611686018427387904 ∧ Y0 < 4611686018427387904 ∧ z % 128 = a + b + c + d + e + f + g + h := by
  have b6 := up _ _ _ 8 2056 h6 hg hh (by decide)
  have b5 := up _ _ _ _ 526344 h5 hf b6 (by decide)
  have b4 := up _ _ _ _ 134744072 h4 he b5 (by decide)
  have b3 := up _ _ _ _ 34494482440 h3 hd b4 (by decide)
  have b2 := up _ _ _ _ 8830587504648 h2 hc b3 (by decide)
  have b1 := up _ _ _ _ 2260630401189896 h1 hb b2 (by decide)
  have b0 := up _ _ _ _ 578721382704613384 h0 ha b1 (by decide)
  have hu' : u = Y0 + Y1 := by rw [hu, (low _ _ _ h0 (Nat.le_trans ha (by decide))).1]
  -- the bytes of u
  have u0 := two _ _ _ _ _ _ _ _ rfl rfl h0 h1
  have u1 := two _ _ _ _ _ _ _ _ rfl rfl h1 h2
  have u2 := two _ _ _ _ _ _ _ _ rfl rfl h2 h3
  have u3 := two _ _ _ _ _ _ _ _ rfl rfl h3 h4
  have u4 := two _ _ _ _ _ _ _ _ rfl rfl h4 h5
  have u5 := two _ _ _ _ _ _ _ _ rfl rfl h5 h6
  have u6 : Y6 + h = (g + h) + 256 * h := six h6
  have hv' : v = (Y0 + Y1) + (Y2 + Y3) := by
    rw [hv, hu', show (65536 : Nat) = 256 * 256 from rfl, ← Nat.div_div_eq_div_mul, (low _ _ _ u0 (le2 ha hb)).1, (low _ _ _ u1 (le2 hb hc)).1]
  have v0 := two _ _ _ _ _ _ _ _ rfl rfl u0 u2
  have v1 := two _ _ _ _ _ _ _ _ rfl rfl u1 u3
  have v2 := two _ _ _ _ _ _ _ _ rfl rfl u2 u4
  have v3 := two _ _ _ _ _ _ _ _ rfl rfl u3 u5
  have v4 := two _ _ _ _ _ _ _ _ rfl rfl u4 u6
  have hz' : z = ((Y0 + Y1) + (Y2 + Y3)) + ((Y4 + Y5) + (Y6 + h)) := by
    rw [hz, hv', show (4294967296 : Nat) = 256 * 256 * 256 * 256 from rfl, ← Nat.div_div_eq_div_mul, ← Nat.div_div_eq_div_mul, ← Nat.div_div_eq_div_mul,
      (low _ _ _ v0 (le4 ha hb hc hd)).1, (low _ _ _ v1 (le4 hb hc hd he)).1, (low _ _ _ v2 (le4 hc hd he hf)).1, (low _ _ _ v3 (le4 hd he hf hg)).1]
  have z0 := two _ _ _ _ _ _ _ _ rfl rfl v0 v4
  have hm := (low _ _ _ (hz'.trans z0) (le8 ha hb hc hd he hf hg hh)).2
  clear z0 v0 v1 v2 v3 v4 u0 u1 u2 u3 u4 u5 u6 h0 h1 h2 h3 h4 h5 h6 hu hv hz
  refine ⟨by omega, by omega, by omega, by omega, ?_⟩
  rw [hm]; omega
theorem y3_eight (x : Nat) : ∃ a b c d e f g h Y0 Y1 Y2 Y3 Y4 Y5 Y6 : Nat, (a ≤ 8 ∧ b ≤ 8 ∧ c ≤ 8 ∧ d ≤ 8 ∧ e ≤ 8 ∧ f ≤ 8 ∧ g ≤ 8 ∧ h ≤ 8) ∧
    (Y0 = a + 256 * Y1 ∧ Y1 = b + 256 * Y2 ∧ Y2 = c + 256 * Y3 ∧ Y3 = d + 256 * Y4 ∧ Y4 = e + 256 * Y5 ∧ Y5 = f + 256 * Y6 ∧ Y6 = g + 256 * h) ∧ y3 8 x = Y0 ∧ wt x = a + b + c + d + e + f + g + h := by
  have st : ∀ k x, y3 (k + 1) x = wtK 8 (x % 256) + 256 * y3 k (x / 256) := fun k x => by rw [y3_step]; omega
  refine ⟨_, _, _, _, _, _, _, y3 1 (x / 256 / 256 / 256 / 256 / 256 / 256 / 256), y3 8 x, y3 7 (x / 256), y3 6 (x / 256 / 256), y3 5 (x / 256 / 256 / 256), y3 4 (x / 256 / 256 / 256 / 256), y3 3 (x / 256 / 256 / 256 / 256 / 256), y3 2 (x / 256 / 256 / 256 / 256 / 256 / 256),
    ⟨wtK_le 8 _, wtK_le 8 _, wtK_le 8 _, wtK_le 8 _, wtK_le 8 _, wtK_le 8 _, wtK_le 8 _, ?_⟩, ⟨st 7 _, st 6 _, st 5 _, st 4 _, st 3 _, st 2 _, st 1 _⟩, rfl, ?_⟩
  · rw [st 0]; have := wtK_le 8 (x / 256 / 256 / 256 / 256 / 256 / 256 / 256 % 256); have : y3 0 (x / 256 / 256 / 256 / 256 / 256 / 256 / 256 / 256) = 0 := by simp [y3, s3, mk]
    omega
  · have e0 : y3 0 (x / 256 / 256 / 256 / 256 / 256 / 256 / 256 / 256) = 0 := by simp [y3, s3, mk]
    rw [st 0, e0]
    unfold wt
    rw [show (64 : Nat) = 8 + (8 + (8 + (8 + (8 + (8 + (8 + (8 + 0))))))) from rfl, wtK8, wtK8, wtK8, wtK8, wtK8, wtK8, wtK8, wtK8]
    simp only [wtK]
    omega
theorem mk85 : mk 85 8 = 6148914691236517205 := by decide
theorem mk51 : mk 51 8 = 3689348814741910323 := by decide
theorem mk15 : mk 15 8 = 1085102592571150095 := by decide

theorem s1_lt (k x : Nat) : s1 k x < 256 ^ k := by
  induction k generalizing x with
  | zero => simp [s1, mk]
  | succ k ih =>
    have := ih (x / 256); have := b1 (x % 256) (by omega)
    rw [s1_step, Nat.pow_succ]; omega
theorem y2_lt (k x : Nat) : 255 * y2 k x + 68 ≤ 68 * 256 ^ k := by
  induction k generalizing x with
  | zero => simp [y2, s2, s1, mk]
  | succ k ih =>
    have := ih (x / 256); have := (b2 (x % 256) (by omega)).1
    rw [y2_step, Nat.pow_succ]; omega
theorem and64 (a : Nat) (m : Nat) (ha : a < 18446744073709551616) (hm : m < 18446744073709551616) : bits .and .u64 (a : Int) (m : Int) = ((a &&& m : Nat) : Int) := u64_and_nat a m ha hm
/-- the eight steps over 64 bits -/
theorem ones64 (x : Nat) (hx : x < 18446744073709551616) : ∃ a1 a2 b1 b2 c u v : Nat,
    (bits .and .u64 ((x : Int) / 2) 6148914691236517205 = (a1 : Int) ∧ bits .and .u64 (x : Int) 6148914691236517205 = (a2 : Int)) ∧ (a1 < 18446744073709551616 ∧ a2 < 18446744073709551616 ∧ a1 + a2 < 18446744073709551616) ∧
    (bits .and .u64 (((a1 : Int) + (a2 : Int)) / 4) 3689348814741910323 = (b1 : Int) ∧ bits .and .u64 ((a1 : Int) + (a2 : Int)) 3689348814741910323 = (b2 : Int)) ∧ (b1 + b2 < 4919131752989213765) ∧
    bits .and .u64 (((b1 : Int) + (b2 : Int)) / 16 + ((b1 : Int) + (b2 : Int))) 1085102592571150095 = (c : Int) ∧ c < 4611686018427387904 ∧
    (c : Int) + (c : Int) / 256 = (u : Int) ∧ u < 4611686018427387904 ∧ (u : Int) + (u : Int) / 65536 = (v : Int) ∧ v < 4611686018427387904 ∧ v + v / 4294967296 < 4611686018427387904 ∧
    bits .and .i64 ((v : Int) + (v : Int) / 4294967296) 127 = (wt x : Int) := by
  have l1 := s1_lt 8 x
  have l2 := y2_lt 8 x
  have e1 : s1 8 x = (x / 2 &&& 6148914691236517205) + (x &&& 6148914691236517205) := by unfold s1; rw [mk85]
  have e2 : y2 8 x = (s1 8 x / 4 &&& 3689348814741910323) + (s1 8 x &&& 3689348814741910323) := by unfold y2 s2; rw [mk51]
  have e3 : y3 8 x = (y2 8 x / 16 + y2 8 x) &&& 1085102592571150095 := by unfold y3 s3; rw [mk15]
  obtain ⟨a, b, c, d, e, f, g, h, Y0, Y1, Y2, Y3, Y4, Y5, Y6, ⟨ha, hb, hc, hd, he, hf, hg, hh⟩, ⟨h0, h1, h2, h3, h4, h5, h6⟩, hY, hw⟩ := y3_eight x
  obtain ⟨z1, z2, z3, z4, z5⟩ := fold8 a b c d e f g h Y0 Y1 Y2 Y3 Y4 Y5 Y6 ha hb hc hd he hf hg hh h0 h1 h2 h3 h4 h5 h6 _ _ _ rfl rfl rfl
  clear h0 h1 h2 h3 h4 h5 h6 ha hb hc hd he hf hg hh
  rw [← hw] at z5
  have e0 : ((256 : Nat) ^ 8) = 18446744073709551616 := by decide
  rw [e0] at l1 l2
  refine ⟨x / 2 &&& 6148914691236517205, x &&& 6148914691236517205, s1 8 x / 4 &&& 3689348814741910323, s1 8 x &&& 3689348814741910323, y3 8 x, Y0 + Y0 / 256, Y0 + Y0 / 256 + (Y0 + Y0 / 256) / 65536, ⟨?_, ?_⟩, ⟨?_, ?_, ?_⟩, ⟨?_, ?_⟩, ?_, ?_, ?_, ?_, z2, ?_, z3, z1, ?_⟩
  · exact and64 (x / 2) 6148914691236517205 (by omega) (by decide)
  · exact and64 x 6148914691236517205 hx (by decide)
  · have := Nat.and_le_right (n := x / 2) (m := 6148914691236517205); omega
  · have := Nat.and_le_right (n := x) (m := 6148914691236517205); omega
  · rw [← e1]; omega
  · rw [show (((x / 2 &&& 6148914691236517205 : Nat) : Int) + ((x &&& 6148914691236517205 : Nat) : Int)) = ((s1 8 x : Nat) : Int) from by rw [e1]; rfl]
    exact and64 (s1 8 x / 4) 3689348814741910323 (by omega) (by decide)
  · rw [show (((x / 2 &&& 6148914691236517205 : Nat) : Int) + ((x &&& 6148914691236517205 : Nat) : Int)) = ((s1 8 x : Nat) : Int) from by rw [e1]; rfl]
    exact and64 (s1 8 x) 3689348814741910323 (by omega) (by decide)
  · rw [← e2]; omega
  · rw [show (((s1 8 x / 4 &&& 3689348814741910323 : Nat) : Int) + ((s1 8 x &&& 3689348814741910323 : Nat) : Int)) = ((y2 8 x : Nat) : Int) from by rw [e2]; rfl, e3, ← and64 _ _ (by omega) (by decide)]; rfl
  · rw [hY]; omega
  · rw [hY]; rfl
  · rfl
  · rw [i64_and127, ← z5]; rfl

/-! ### sums -/
theorem wtK_xor (k a b : Nat) : wtK k (a ^^^ b) + 2 * wtK k (a &&& b) = wtK k a + wtK k b := by
  induction k generalizing a b with
  | zero => simp [wtK]
  | succ k ih =>
    have h := ih (a / 2) (b / 2)
    have e1 : (a ^^^ b) / 2 = a / 2 ^^^ b / 2 := by have := Nat.xor_div_two_pow (a := a) (b := b) (n := 1); simpa using this
    have e2 : (a &&& b) / 2 = a / 2 &&& b / 2 := by have := Nat.and_div_two_pow (a := a) (b := b) (n := 1); simpa using this
    have e3 : (a ^^^ b) % 2 = (a % 2) ^^^ (b % 2) := by have := Nat.xor_mod_two_pow (a := a) (b := b) (n := 1); simpa using this
    have e4 : (a &&& b) % 2 = (a % 2) &&& (b % 2) := by have := Nat.and_mod_two_pow (a := a) (b := b) (n := 1); simpa using this
    simp only [wtK, e1, e2, e3, e4]
    rcases Nat.mod_two_eq_zero_or_one a with h1 | h1 <;> rcases Nat.mod_two_eq_zero_or_one b with h2 | h2 <;> rw [h1, h2] <;> simp <;> omega
theorem wtK_or (k a b c : Nat) (hc : ∀ i, c.testBit i = (b.testBit i && !a.testBit i) ∨ k ≤ i) : wtK k (a ||| b) = wtK k a + wtK k c := by
  induction k generalizing a b c with
  | zero => simp [wtK]
  | succ k ih =>
    have h := ih (a / 2) (b / 2) (c / 2) (fun i => by
      have := hc (i + 1)
      rw [Nat.testBit_succ, Nat.testBit_succ, Nat.testBit_succ] at this
      rcases this with h | h
      · exact .inl h
      · exact .inr (by omega))
    have e1 : (a ||| b) / 2 = a / 2 ||| b / 2 := by have := Nat.or_div_two_pow (a := a) (b := b) (n := 1); simpa using this
    have e3 : (a ||| b) % 2 = (a % 2) ||| (b % 2) := by have := Nat.or_mod_two_pow (a := a) (b := b) (n := 1); simpa using this
    have h0 := hc 0
    simp only [Nat.testBit_zero] at h0
    simp only [wtK, e1, e3]
    rcases h0 with h0 | h0
    · rcases Nat.mod_two_eq_zero_or_one a with h1 | h1 <;> rcases Nat.mod_two_eq_zero_or_one b with h2 | h2 <;> rcases Nat.mod_two_eq_zero_or_one c with h3 | h3 <;> rw [h1, h2, h3] at h0 <;> rw [h1, h2, h3] <;> simp at h0 <;> simp <;> omega
    · omega

/-- how many numbers below x have the weight k -/
def cntW (k : Int) : Nat → Nat
  | 0 => 0
  | x + 1 => cntW k x + (if (wt x : Int) = k then 1 else 0)
theorem cntW_le (k : Int) (x : Nat) : cntW k x ≤ x := by
  induction x with
  | zero => simp [cntW]
  | succ x ih => simp only [cntW]; split <;> omega
theorem cntW_yes (k : Int) (x : Nat) (h : (wt x : Int) = k) : cntW k (x + 1) = cntW k x + 1 := by simp [cntW, h]
theorem cntW_no (k : Int) (x : Nat) (h : ¬ (wt x : Int) = k) : cntW k (x + 1) = cntW k x := by simp [cntW, h]
theorem cntW_mono (k : Int) (x y : Nat) (h : x ≤ y) : cntW k x ≤ cntW k y := by
  induction y with
  | zero => rw [show x = 0 from by omega]; exact Nat.le_refl _
  | succ y ih =>
    by_cases e : x = y + 1
    · rw [e]; exact Nat.le_refl _
    · have := ih (by omega); simp only [cntW]; omega
/-- the document's example -/
theorem six2 : ∀ x < 16, wt x = 2 → (x = 3 ∧ cntW 2 x = 0) ∨ (x = 5 ∧ cntW 2 x = 1) ∨ (x = 6 ∧ cntW 2 x = 2) ∨ (x = 9 ∧ cntW 2 x = 3) ∨ (x = 10 ∧ cntW 2 x = 4) ∨ (x = 12 ∧ cntW 2 x = 5) := by decide +kernel
theorem six2_end : cntW 2 16 = 6 := by decide +kernel
end Go.Proofs.Ytcpjmfemgdgplaa.Bm

/-
  Geometries, by numbers alone: which are right, which places they have, a place's index; plain mathematics.
-/
namespace Go.Proofs.Ytcpjmfemgdgplaa
open Go.RowKit
open Bm (wt wtK)
namespace Ge

/-- a power of 2 up to m, of those up to 1024 -/
def pw (n m : Int) : Bool := decide (n = 1 ∨ n = 2 ∨ n = 4 ∨ n = 8 ∨ n = 16 ∨ n = 32 ∨ n = 64 ∨ n = 128 ∨ n = 256 ∨ n = 512 ∨ n = 1024) && decide (n ≤ m)
theorem pw_pos {n m : Int} (h : pw n m = true) : 0 < n ∧ n ≤ m := by
  unfold pw at h
  simp only [Bool.and_eq_true, decide_eq_true_eq] at h
  omega
theorem pw_low {n m : Int} (h : n ≤ 0) : pw n m = false := by
  cases e : pw n m with
  | false => rfl
  | true => have := pw_pos e; omega
theorem pw_high {n m : Int} (h : m < n) : pw n m = false := by
  cases e : pw n m with
  | false => rfl
  | true => have := pw_pos e; omega
def isp (k : Nat) : Bool := decide (k = 1 ∨ k = 2 ∨ k = 4 ∨ k = 8 ∨ k = 16 ∨ k = 32 ∨ k = 64 ∨ k = 128 ∨ k = 256 ∨ k = 512 ∨ k = 1024)
theorem isp_wt : ∀ k, k < 1025 → decide (wt k = 1) = isp k := by decide +kernel
theorem isp_pw (k : Nat) (m : Int) (h : (k : Int) ≤ m) : isp k = pw k m := by
  unfold isp pw
  rw [decide_eq_true h, Bool.and_true, Bool.eq_iff_iff, decide_eq_true_eq, decide_eq_true_eq]
  omega

/-- a right geometry: ranks, spares, banks, rows, columns -/
def rt (r s b o c : Int) : Bool := pw r 8 && decide (0 ≤ s) && decide (s ≤ 8 - r) && pw b 16 && pw o 1024 && pw c 64 && decide ((r + s) * b * o * c ≤ 4096)
theorem rt_all {r s b o c : Int} (h : rt r s b o c = true) : (0 < r ∧ r ≤ 8) ∧ (0 ≤ s ∧ s ≤ 8 - r) ∧ (0 < b ∧ b ≤ 16) ∧ (0 < o ∧ o ≤ 1024) ∧ (0 < c ∧ c ≤ 64) ∧ (r + s) * b * o * c ≤ 4096 := by
  unfold rt at h
  simp only [Bool.and_eq_true, decide_eq_true_eq] at h
  obtain ⟨⟨⟨⟨⟨⟨h1, h2⟩, h3⟩, h4⟩, h5⟩, h6⟩, h7⟩ := h
  exact ⟨pw_pos h1, ⟨h2, h3⟩, pw_pos h4, pw_pos h5, pw_pos h6, h7⟩
/-- a geometry has a place -/
def hd (r s b o c p q u v : Int) : Bool := rt r s b o c && decide (0 ≤ p ∧ p < r + s) && decide (0 ≤ q ∧ q < b) && decide (0 ≤ u ∧ u < o) && decide (0 ≤ v ∧ v < c)
theorem hd_all {r s b o c p q u v : Int} (h : hd r s b o c p q u v = true) : rt r s b o c = true ∧ (0 ≤ p ∧ p < r + s) ∧ (0 ≤ q ∧ q < b) ∧ (0 ≤ u ∧ u < o) ∧ (0 ≤ v ∧ v < c) := by
  unfold hd at h
  simp only [Bool.and_eq_true, decide_eq_true_eq] at h
  obtain ⟨⟨⟨⟨h1, h2⟩, h3⟩, h4⟩, h5⟩ := h
  exact ⟨h1, h2, h3, h4, h5⟩
/-- a place's index -/
def ix (p q u v : Int) : Int := 1048576 * p + 65536 * q + 64 * u + v
end Ge
end Go.Proofs.Ytcpjmfemgdgplaa

/-
  The walks of package bit, the leaves: the weight of a word of each width, its parity; the document's weight.
-/
namespace Go.Proofs.Ytcpjmfemgdgplaa
open Go.RowKit
open Bm (wt wtK)

set_option maxHeartbeats 1000000 in
theorem onesCount_any (x : Nat) (hx : x < 18446744073709551616) (w : World) :
    Calls Try.prog 87 #[.int .u64 (x : Int)] w fun e w' => e = .returned (.int .i64 (wt x : Int)) ∧ w' = w := by
  obtain ⟨a1, a2, b1, b2, c, u, v, ⟨ha1, ha2⟩, ⟨ra1, ra2, ra⟩, ⟨hb1, hb2⟩, rb, hc, rc, hu, ru, hv, rv, rz, hz⟩ := Bm.ones64 x hx
  go_enter Try.func87, Try.ntmps87
  go_wp2_with (first | simp only [ha1] | simp only [ha2] | simp only [hb1] | simp only [hb2] | simp only [hc] | simp only [hu] | simp only [hv] | simp only [hz])
  go_ret
  exact ⟨rfl, rfl⟩




theorem weight64_any (x : Nat) (hx : x < 18446744073709551616) (w : World) :
    Calls Try.prog 81 #[.int .u64 (x : Int)] w fun e w' => e = .returned (.int .i64 (wt x : Int)) ∧ w' = w := by
  have hx' : x < 18446744073709551616 := by omega
  go_enter Try.func81, Try.ntmps81
  go_wp2_with (go_at_call 87; refine (onesCount_any _ hx' _).mono ?_; rintro e w' ⟨rfl, rfl⟩)
  go_ret
  exact ⟨rfl, rfl⟩

set_option maxHeartbeats 1000000 in
theorem refWeight_any (x : Nat) (hx : x < 18446744073709551616) (w : World) :
    Calls Try.prog 53 #[.int .u64 (x : Int)] w fun e w' => e = .returned (.int .i64 (wt x : Int)) ∧ w' = w := by
  go_enter Try.func53, Try.ntmps53
  go_wp2
  go_loop [0, 3] (fun a b => ∃ y n : Nat, y < 18446744073709551616 ∧ n ≤ 64 ∧ wt y ≤ 64 ∧ n + wt y ≤ 64 ∧ Hid (n + wt y = wt x) ∧ a = .int .u64 (y : Int) ∧ b = .int .i64 (n : Int)) (fun a _ => (intOf a).toNat)
  case atStart => exact ⟨x, 0, hx, by omega, Bm.wt_le x, by have := Bm.wt_le x; omega, by show _ = _; omega, rfl, rfl⟩
  case round =>
    obtain ⟨y, n, hy, hn, hw, hs, Hs, rfl, rfl⟩ := hrel
    by_cases h0 : 0 < y
    · have st := Bm.wt_step y hy
      have h2 : n + y % 2 ≤ 64 := by omega
      have e1 : (y : Int).tmod 2 = ((y % 2 : Nat) : Int) := by rw [Int.tmod_eq_emod_of_nonneg (by omega)]; rfl
      have e2 : (y : Int).tdiv 2 = ((y / 2 : Nat) : Int) := by rw [Int.tdiv_eq_ediv_of_nonneg (by omega)]; rfl
      go_wp2_with (first | simp only [e1] | simp only [e2])
      go_round
      case rel => exact ⟨y / 2, n + y % 2, by omega, h2, by omega, by omega, by have := Hs.out; show _ = _; omega, by first | rfl | go_num, by first | rfl | go_num⟩
      case measure => simp [intOf]; omega
    · have e : n = wt x := by have := Hs.out; rw [show y = 0 from by omega, Bm.wt_zero] at this; omega
      have He : Hid (n = wt x) := e
      have hy0 : y = 0 := by omega
      clear e Hs hs hw h0
      subst hy0
      go_wp2
      go_ret
      exact ⟨by rw [← He.out]; rfl, rfl⟩
end Go.Proofs.Ytcpjmfemgdgplaa
