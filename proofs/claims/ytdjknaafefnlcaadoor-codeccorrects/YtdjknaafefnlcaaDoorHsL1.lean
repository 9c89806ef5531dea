/-
  The law HsiaoDetects.
-/
import Derived.Test.YtdjknaafefnlcaaDoorHsW8
namespace Go.Proofs.YtdjknaafefnlcaaDoor
open Go.RowKit Go.Shelf
open Bm (wt wtK cntW)
open Hm (col onesOf nOf idx kd pl xs ap syn)
attribute [local go_sem] Oper.semAt_some

/-- behind some calls of a law that began at w: the code lies in the first block -/
structure St (w V : World) : Prop where
  code : CodeAt V w.heap.size
  tab : TabW V
  below : Below w.heap.size w V
theorem St.next {w V V' : World} (h : St w V) (k : Below V.heap.size V V') : St w V' :=
  ⟨h.code.below k h.code.lt, h.tab.below k h.tab.lt, h.below.trans (k.mono h.below.size)⟩
theorem St.first {w V : World} (hT : TabW w) (hc : CodeAt V w.heap.size) (hb : Below w.heap.size w V) : St w V := ⟨hc, hT.below hb hT.lt, hb⟩
theorem low_bit (a : Int) : ∃ b, bits .and .i64 a 1 = b ∧ (b = 0 ∨ b = 1) := ⟨a % 2, i64_and1 a, by omega⟩

end Go.Proofs.YtdjknaafefnlcaaDoor
