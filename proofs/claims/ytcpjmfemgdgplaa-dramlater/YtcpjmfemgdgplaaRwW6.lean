/-
  The document's example, which every statement of layer 9 holds the program against first.
-/
import Derived.Test.YtcpjmfemgdgplaaRwW5
import Derived.Test.YtcpjmfemgdgplaaBitW4
namespace Go.Proofs.Ytcpjmfemgdgplaa
open Go.RowKit Go.Shelf
attribute [local go_sem] Oper.semAt_some

/-- between two rounds of the example's range -/
structure An (B : Nat) (w : World) (x : Nat) (W : World) : Prop where
  n : Box W (B + 1) (.int .i64 (x : Int))
  r : Box W B (.bool false)
  below : Below B w W
theorem An.stay {B C x : Nat} {w W W' : World} (h : An B w x W) (k : Stay C W W') (hC : B ≤ C) : An B w x W' := ⟨h.n.stay k, h.r.stay k, below_stay h.below k hC⟩
theorem An.step {B x : Nat} {w W : World} (h : An B w x W) : An B w (x + 1) (W.setCell ⟨B + 1, 0, none⟩ (.int .i64 ((x : Int) + 1))) :=
  ⟨h.n.set _, h.r.other (by omega) _, h.below.setCell (p := ⟨B + 1, 0, none⟩) (by simp) _⟩

end Go.Proofs.Ytcpjmfemgdgplaa
