/-
  A line in digits, by the document.
-/
import Derived.Test.YtdjknaafefnlcaaDoorLnW3
import Derived.Laws.Strings2
namespace Go.Proofs.YtdjknaafefnlcaaDoor
open Go.RowKit Go.Shelf
open Ln (hexd hxn hxl)
attribute [local go_sem] Oper.semAt_some

/-- a text of bytes -/
abbrev tx (l : List UInt8) : Value := .string ⟨l.toArray⟩
theorem exec_slice2 {P : Program} {o : Oper} {a : Act} (t : TypeId) (x i j : Operand) (ho : o.op = .slice t x (some i) (some j) none) (vx vi vj v : Value) (hx : a.eval x = vx) (hi : a.eval i = vi) (hj : a.eval j = vj)
    (h : ∀ w, (Instr.sliceAt t vx (some vi) (some vj) none).run P w = .ok v w) (w : World) : (execOp a.eval o).run P w = .ok (.value v) w := by
  simp [execOp, ho, hx, hi, hj, h]
theorem exec_add {P : Program} {o : Oper} {a : Act} (t : TypeId) (x y : Operand) (u : TypeId) (ho : o.op = .binOp .add t x y u) (vx vy v : Value) (hx : a.eval x = vx) (hy : a.eval y = vy)
    (h : ∀ w, (binOp .add t vx vy).run P w = .ok v w) (w : World) : (execOp a.eval o).run P w = .ok (.value v) w := by
  simp [execOp, ho, hx, hy, h, eqGuard]
end Go.Proofs.YtdjknaafefnlcaaDoor
