/-
  The document's values at the four roots: a region that draws its order, with four loads of a long array, four calls and a store, taken by hand.
-/
import Derived.Test.YtdjknaafefnlcaaDoorRsW4
import Derived.Shelf.Abstract
namespace Go.Proofs.YtdjknaafefnlcaaDoor
open Go.RowKit Go.Shelf
open Gf (gI)
open Po (El mu pwr ev S)
open Rm (al sy)

/-- a call of a Go function of two arguments by its contract, as one step of a region that draws its order -/
theorem step_call2 {P : Program} {ops : Array Oper} {o : Oper} {a : Act} {w : World} {K : Act → World → Prop} {Q : Exit → Act → World → Prop} {E : Prop} (hgd : o.guard = none) (f : FuncId) (s x : Operand) (ts : Array TypeId)
    (ho : o.op = .call { callee := .value (.func f), args := #[s, x], argTypes := ts }) (eg : ∀ args w, (callFunc f args).run P w = .ok (.enter f args) w) (vs vx v : Value) (hs : a.eval s = vs) (hx : a.eval x = vx)
    (h : Calls P f #[vs, vx] w fun e w' => e = .returned v ∧ K (a.put o.dst v) w') :
    if Region.wanted o (yielded ops a.tmps) = true then Oper.wp P o a w K Q else E := by
  have hw : Region.wanted o (yielded ops a.tmps) = true := by simp [Region.wanted, hgd]
  have hf : a.eval (.func f) = .func (.func f) #[] #[] := rfl
  rw [if_pos hw]
  unfold Oper.wp
  simp only [execOp, ho, resolve, hf, List.map_toArray, List.map_cons, List.map_nil, hs, hx]
  simp [invoke, eg, Oper.upon, go_sem]
  refine Calls.mono h ?_
  rintro e w' ⟨rfl, hk⟩
  exact hk

theorem step_plain {P : Program} {ops : Array Oper} {o : Oper} {a : Act} {w : World} {K : Act → World → Prop} {Q : Exit → Act → World → Prop} {E : Prop} (hgd : o.guard = none) (h : Oper.wp P o a w K Q) :
    if Region.wanted o (yielded ops a.tmps) = true then Oper.wp P o a w K Q else E := by
  have hw : Region.wanted o (yielded ops a.tmps) = true := by simp [Region.wanted, hgd]
  rw [if_pos hw]; exact h

end Go.Proofs.YtdjknaafefnlcaaDoor
