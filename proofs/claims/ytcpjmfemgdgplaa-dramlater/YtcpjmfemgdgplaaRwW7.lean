/-
  What the statements of layer 9 share: arrays of 72 bytes that lie, are loaded in regions of every kind, and are held against one another.
-/
import Derived.Test.YtcpjmfemgdgplaaRwW6
import Derived.Test.YtcpjmfemgdgplaaCalm
import Derived.Test.YtcpjmfemgdgplaaRoundM
namespace Go.Proofs.Ytcpjmfemgdgplaa
open Go.RowKit Go.Shelf
attribute [local go_sem] Oper.semAt_some

theorem args_byts (n : Nat) (F : Nat → Int) (h : ∀ i, i < n → (Lit.int .u8 (F i)).wf = true) : Byts n F := fun i hi => by
  have := bounds_u8 (h i hi); omega
theorem gdR : Try.prog.eqGuardType Try.prog.depth 40 = false := by kernel_rfl
theorem infoR : (Try.prog.info? 40).map (·.size) = some 72 := by kernel_rfl
theorem infoA9 : (Try.prog.info? 39).map (·.size) = some 72 := by kernel_rfl
theorem zeroR (w : World) : (zeroValue 40).run Try.prog w = .ok (.agg (ints .u8 72 fun _ => 0).toArray) w := by kernel_rfl
theorem zeroA9 (w : World) : (zeroValue 39).run Try.prog w = .ok (.agg (ints .u8 72 fun _ => 0).toArray) w := by kernel_rfl
theorem eqlR (F G : Nat → Int) (hF : Byts 72 F) (hG : Byts 72 G) (b : Bool) (hb : b = true ↔ ∀ i, i < 72 → F i = G i) (w : World) : (binOp .eql 40 (.agg (ints .u8 72 F).toArray) (.agg (ints .u8 72 G).toArray)).run Try.prog w = .ok (.bool b) w :=
  eql_ints 40 72 Try.underlying40 F G hF hG b hb w
theorem neqR (F G : Nat → Int) (hF : Byts 72 F) (hG : Byts 72 G) (b : Bool) (hb : b = true ↔ ∀ i, i < 72 → F i = G i) (w : World) : (binOp .neq 40 (.agg (ints .u8 72 F).toArray) (.agg (ints .u8 72 G).toArray)).run Try.prog w = .ok (.bool (!b)) w :=
  neq_ints 40 72 Try.underlying40 F G hF hG b hb w
theorem exec_eqlA {P : Program} {o : Oper} {a : Act} (t : TypeId) (x y : Operand) (u : TypeId) (ho : o.op = .binOp .eql t x y u) (A B : Array Value) (v : Value) (hx : a.eval x = .agg A) (hy : a.eval y = .agg B) (hg : P.eqGuardType P.depth t = false)
    (h : ∀ w, (binOp .eql t (.agg A) (.agg B)).run P w = .ok v w) (w : World) : (execOp a.eval o).run P w = .ok (.value v) w := by
  simp [execOp, ho, hx, hy, h, eqGuard, hg]
theorem exec_neqA {P : Program} {o : Oper} {a : Act} (t : TypeId) (x y : Operand) (u : TypeId) (ho : o.op = .binOp .neq t x y u) (A B : Array Value) (v : Value) (hx : a.eval x = .agg A) (hy : a.eval y = .agg B) (hg : P.eqGuardType P.depth t = false)
    (h : ∀ w, (binOp .neq t (.agg A) (.agg B)).run P w = .ok v w) (w : World) : (execOp a.eval o).run P w = .ok (.value v) w := by
  simp [execOp, ho, hx, hy, h, eqGuard, hg]

/-- a load of an array in a region that draws its order and only reads -/
theorem quiet_load {P : Program} {ops : Array Oper} {C : World → Prop} {Q : Act → Prop} {rest : List Oper} {op : Oper} {a : Act} (hw : Region.wanted op (yielded ops a.tmps) = true) (ty : TypeId) (x : Operand) (ho : op.op = .load ty x)
    (b o : Nat) (hx : a.eval x = .pointer (some ⟨b, o, none⟩)) (cs : List Value) (d : TypeDesc) (hc : ∀ w, C w → w.rangeAt b o cs)
    (hu : P.underlying ty = some d) (hd : d.isRow = true) (hi : (P.info? ty).map (·.size) = some cs.length) (h : wpQuiet P ops C Q rest (a.put op.dst (.agg cs.toArray))) : wpQuiet P ops C Q (op :: rest) a :=
  BigFrame.wpQuiet_want hw fun K hK => ⟨_, fun w hw' => by
    unfold Oper.quietAt execOp
    simp only [ho, hx, Instr.loadAt, Instr.sureAddr, Sem.run_bind, Sem.run_pure, Result.andThen_ok, run_loadVar_mid w b o ty cs d (hc w hw') hu hd hi]
    exact ⟨rfl, rfl⟩, hK _ h⟩
/-- what is known of one operation, in such a region -/
theorem quiet_one {P : Program} {ops : Array Oper} {C : World → Prop} {Q : Act → Prop} {rest : List Oper} {op : Oper} {a : Act} (hw : Region.wanted op (yielded ops a.tmps) = true) (v : Value) (hx : ∀ w, (execOp a.eval op).run P w = .ok (.value v) w)
    (h : wpQuiet P ops C Q rest (a.put op.dst v)) : wpQuiet P ops C Q (op :: rest) a :=
  BigFrame.wpQuiet_want hw fun K hK => ⟨v, fun w _ => by unfold Oper.quietAt; rw [hx w]; exact ⟨rfl, rfl⟩, hK _ h⟩
/-- an array lies in a block -/
structure At9 (W : World) (b : Nat) (L : List Value) : Prop where
  r : W.rangeAt b 0 L
  s : b < W.heap.size
section
variable {W W' : World} {b : Nat} {L : List Value}
theorem At9.of (h : At9 W b L) (e : W'.heap[b]? = W.heap[b]?) : At9 W' b L :=
  ⟨fun j v hv => (World.cell?_of_block (w := W) (a := ⟨b, 0 + j, none⟩) e).trans (h.r j v hv), by
    have hs := h.s
    rw [Array.getElem?_eq_getElem hs] at e
    exact (Array.getElem?_eq_some_iff.1 e).1⟩
theorem At9.next (h : At9 W b L) (e : Below W.heap.size W W') : At9 W' b L := h.of (e.block b h.s)
theorem At9.alloc (h : At9 W b L) (o : Obj) : At9 (W.alloc o) b L := h.of (Below.heap_alloc W o b h.s)
theorem Bk.at9 {k : IntKind} {n : Nat} {F : Nat → Int} (h : Bk k W b n F) : At9 W b (ints k n F) := ⟨h.range, h.lt⟩
end
end Go.Proofs.Ytcpjmfemgdgplaa
