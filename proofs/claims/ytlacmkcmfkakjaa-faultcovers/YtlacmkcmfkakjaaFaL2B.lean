/-
  What FaultCovers works on.
-/
import Derived.Test.YtlacmkcmfkakjaaFaW8
import Derived.Test.YtlacmkcmfkakjaaFaM1
import Derived.Test.YtlacmkcmfkakjaaRwW4
namespace Go.Proofs.Ytlacmkcmfkakjaa
open Go.RowKit Go.Shelf
attribute [local go_sem] Oper.semAt_some

structure Lw2 (B C D : Nat) (k p q u v c i x : Int) (p' q' u' v' : Int) (L : List Value) (F : Nat → Int) (w W : World) : Prop where
  f : Ft W B k p q u v c i x
  g : Pl W C p' q' u' v'
  r : Bk .u8 W D 72 F
  n : Below B w W
  e : ints .u8 72 F = L
structure Lx2 (B C D E : Nat) (k p q u v c i x : Int) (p' q' u' v' : Int) (L : List Value) (F : Nat → Int) (M : List Value) (G : Nat → Int) (w W : World) : Prop where
  s : Lw2 B C D k p q u v c i x p' q' u' v' L F w W
  x : Bk .u8 W E 72 G
  e : ints .u8 72 G = M
section
variable {B C D E : Nat} {k p q u v c i x : Int} {p' q' u' v' : Int} {L M : List Value} {F G : Nat → Int} {w W W' : World}
theorem Lw2.next (h : Lw2 B C D k p q u v c i x p' q' u' v' L F w W) (e : Below W.heap.size W W') : Lw2 B C D k p q u v c i x p' q' u' v' L F w W' :=
  ⟨h.f.next e, h.g.next e, h.r.next e, h.n.trans (e.mono (Nat.le_of_lt h.f.lt)), h.e⟩
theorem Lx2.next (h : Lx2 B C D E k p q u v c i x p' q' u' v' L F M G w W) (e : Below W.heap.size W W') : Lx2 B C D E k p q u v c i x p' q' u' v' L F M G w W' :=
  ⟨h.s.next e, h.x.next e, h.e⟩
theorem Lx2.drewN (h : Lx2 B C D E k p q u v c i x p' q' u' v' L F M G w W) (j : Nat) : Lx2 B C D E k p q u v c i x p' q' u' v' L F M G w (W.drewN j) := h.next (below_drewN (Below.refl _ W) j)
theorem Lw2.rr (h : Lw2 B C D k p q u v c i x p' q' u' v' L F w W) : W.rangeAt D 0 L := by have := h.r.range; rwa [h.e] at this
theorem Lx2.rx (h : Lx2 B C D E k p q u v c i x p' q' u' v' L F M G w W) : W.rangeAt E 0 M := by have := h.x.range; rwa [h.e] at this
end
end Go.Proofs.Ytlacmkcmfkakjaa
