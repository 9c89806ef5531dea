/-
  Fill, Full; two lines merged, by the document and by the program.
-/
import Derived.Test.YtdjknaafefnlcaaDoorLnMath
import Derived.Test.YtdjknaafefnlcaaDoorAry
import Derived.Test.YtdjknaafefnlcaaDoorBitW5
import Derived.Test.YtdjknaafefnlcaaDoorBoxes
namespace Go.Proofs.YtdjknaafefnlcaaDoor
open Go.RowKit Go.Shelf
open Ln (mrg mrgK)
attribute [local go_sem] Oper.semAt_some

theorem zeroL (w : World) : (zeroValue 23).run Tryd.prog w = .ok (.agg (ints .u8 64 fun _ => 0).toArray) w := by kernel_rfl
theorem infoL : (Tryd.prog.info? 23).map (·.size) = some 64 := by kernel_rfl

/-- a function works on the line X in the block E; its result's variable is the block D; nothing below B was turned -/
structure Wk (B D E : Nat) (X : Nat → Int) (w wr : World) : Prop where
  r : Bk .u8 wr D 64 (fun _ => 0)
  o : Bk .u8 wr E 64 X
  below : Below B w wr
section
variable {B D E : Nat} {X Y : Nat → Int} {w wr wr' : World}
theorem Wk.set (h : Wk B D E X w wr) (hD : D ≠ E) (hB : B ≤ E) (i : Nat) (e : Int) : Wk B D E (fun j => if j = i then e else X j) w (wr.setCell ⟨E, i, none⟩ (.int .u8 e)) :=
  ⟨h.r.other hD i _, h.o.set i e, h.below.setCell (p := ⟨E, i, none⟩) hB _⟩
theorem Wk.congr (h : Wk B D E X w wr) (k : ∀ i, i < 64 → X i = Y i) : Wk B D E Y w wr := ⟨h.r, h.o.congr k, h.below⟩
theorem Wk.stay {C : Nat} (h : Wk B D E X w wr) (k : Stay C wr wr') (hC : B ≤ C) : Wk B D E X w wr' := ⟨h.r.stay k, h.o.stay k, below_stay h.below k hC⟩
theorem Wk.next (h : Wk B D E X w wr) (hB : B ≤ wr.heap.size) (k : Below wr.heap.size wr wr') : Wk B D E X w wr' := ⟨h.r.next k, h.o.next k, h.below.trans (k.mono hB)⟩
end

end Go.Proofs.YtdjknaafefnlcaaDoor
