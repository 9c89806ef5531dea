/-
  Loads and stores of whole arrays in a fenced walk: of an iterator, and of a round of a range over a function.
-/
import Derived.Test.YtcpjmfemgdgplaaRound2
import Derived.Test.YtcpjmfemgdgplaaAry
namespace Go.Proofs.Ytcpjmfemgdgplaa
open Go.RowKit

theorem Keep.setAt {M : Nat → Prop} {X Y : World} (h : Keep M X Y) {c : Nat} (hc : M c) (i : Nat) (u : Value) : Keep M X (Y.setCell ⟨c, i, none⟩ u) :=
  h.trans ⟨by simp, fun b _ hm => Below.heap_setCell Y _ u b (fun e => hm (by subst e; exact hc))⟩
theorem size_puts (c : Nat) : ∀ (vs : List Value) (o : Nat) (W : World), (W.setCells c o vs).heap.size = W.heap.size
  | [], _, _ => rfl
  | v :: vs, o, W => (size_puts c vs (o + 1) _).trans (by simp)
theorem Keep.puts {M : Nat → Prop} {X Y : World} (h : Keep M X Y) {c : Nat} (hc : M c) (i : Nat) (vs : List Value) : Keep M X (Y.setCells c i vs) :=
  h.trans ⟨by rw [size_puts]; exact Nat.le_refl _, fun b _ hm => heap_puts c vs i Y b (fun e => hm (by subst e; exact hc))⟩
/-- a block that was laid meanwhile may be written -/
theorem Keep.putsNew {M : Nat → Prop} {X Y : World} (h : Keep M X Y) {c : Nat} (hc : X.heap.size ≤ c) (i : Nat) (vs : List Value) : Keep M X (Y.setCells c i vs) :=
  ⟨by rw [size_puts]; exact h.1, fun b hb hm => (heap_puts c vs i Y b (by omega)).trans (h.2 b hb hm)⟩
section
variable {n l : Nat} {P : Program} {ops : Array Oper} {rest : List Oper} {op : Oper} {a : Act} {w : World} {Q : Exit → Act → World → Prop}
theorem oper_wide {K : Act → World → Prop} (h : op.wp P a w K Q) : op.wpIn Fence.wide n P a w K Q :=
  ⟨fun _ _ => trivial, by rw [show Fence.wide.round = none from rfl, Oper.semAt_none]; exact upon_wide h⟩
theorem load_wide (hgd : op.guard = none) (ty : TypeId) (x : Operand) (ho : op.op = .load ty x)
    (b o : Nat) (hx : a.eval x = .pointer (some ⟨b, o, none⟩)) (cs : List Value) (d : TypeDesc) (hc : w.rangeAt b o cs)
    (hu : P.underlying ty = some d) (hd : d.isRow = true) (hi : (P.info? ty).map (·.size) = some cs.length)
    (h : wpListIn Fence.wide n P ops Q rest (a.put op.dst (.agg cs.toArray)) w) : wpListIn Fence.wide n P ops Q (op :: rest) a w :=
  wpListIn_plain hgd fun _ hK => oper_wide (wp_load_mid ty x ho b o hx cs d hc hu hd hi (hK _ _ h))
theorem store_wide (hgd : op.guard = none) (ty : TypeId) (x y : Operand) (ho : op.op = .store ty x y)
    (b o : Nat) (cs : Array Value) (hx : a.eval x = .pointer (some ⟨b, o, none⟩)) (hy : a.eval y = .agg cs) (hc : w.there b o cs.size) (hi : (P.info? ty).map (·.size) = some cs.size) (h1 : cs.all (·.oneCell') = true)
    (h : wpListIn Fence.wide n P ops Q rest (a.put op.dst undef) (w.setCells b o cs.toList)) : wpListIn Fence.wide n P ops Q (op :: rest) a w :=
  wpListIn_plain hgd fun _ hK => oper_wide (wp_store_mid ty x y ho b o cs hx hy hc hi h1 (hK _ _ h))
theorem load_round (hgd : op.guard = none) (ty : TypeId) (x : Operand) (ho : op.op = .load ty x)
    (b o : Nat) (hx : a.eval x = .pointer (some ⟨b, o, none⟩)) (cs : List Value) (d : TypeDesc) (hc : w.rangeAt b o cs)
    (hu : P.underlying ty = some d) (hd : d.isRow = true) (hi : (P.info? ty).map (·.size) = some cs.length)
    (h : wpListIn (Fence.wide.inRound l) n P ops Q rest (a.put op.dst (.agg cs.toArray)) w) : wpListIn (Fence.wide.inRound l) n P ops Q (op :: rest) a w :=
  wpListIn_plain hgd fun _ hK => oper_round (fun c e => by rw [ho] at e; cases e) (fun _ _ h => h) (wp_load_mid ty x ho b o hx cs d hc hu hd hi (hK _ _ h))
theorem load_roundG (hw : Region.wanted op (yielded ops a.tmps) = true) (ty : TypeId) (x : Operand) (ho : op.op = .load ty x)
    (b o : Nat) (hx : a.eval x = .pointer (some ⟨b, o, none⟩)) (cs : List Value) (d : TypeDesc) (hc : w.rangeAt b o cs)
    (hu : P.underlying ty = some d) (hd : d.isRow = true) (hi : (P.info? ty).map (·.size) = some cs.length)
    (h : wpListIn (Fence.wide.inRound l) n P ops Q rest (a.put op.dst (.agg cs.toArray)) w) : wpListIn (Fence.wide.inRound l) n P ops Q (op :: rest) a w :=
  wpListIn_step fun K hK => by
    rw [if_pos hw]
    exact oper_round (fun c e => by rw [ho] at e; cases e) (fun _ _ h => h) (wp_load_mid ty x ho b o hx cs d hc hu hd hi (hK _ _ h))
theorem store_round (hgd : op.guard = none) (ty : TypeId) (x y : Operand) (ho : op.op = .store ty x y)
    (b o : Nat) (cs : Array Value) (hx : a.eval x = .pointer (some ⟨b, o, none⟩)) (hy : a.eval y = .agg cs) (hc : w.there b o cs.size) (hi : (P.info? ty).map (·.size) = some cs.size) (h1 : cs.all (·.oneCell') = true)
    (h : wpListIn (Fence.wide.inRound l) n P ops Q rest (a.put op.dst undef) (w.setCells b o cs.toList)) : wpListIn (Fence.wide.inRound l) n P ops Q (op :: rest) a w :=
  wpListIn_plain hgd fun _ hK => oper_round (fun c e => by rw [ho] at e; cases e) (fun _ _ h => h) (wp_store_mid ty x y ho b o cs hx hy hc hi h1 (hK _ _ h))
end
end Go.Proofs.Ytcpjmfemgdgplaa
