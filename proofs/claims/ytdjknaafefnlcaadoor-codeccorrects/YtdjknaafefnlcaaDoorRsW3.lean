/-
  The document's values at the four roots.
-/
import Derived.Test.YtdjknaafefnlcaaDoorRsW2
namespace Go.Proofs.YtdjknaafefnlcaaDoor
open Go.RowKit
open Gf (gI)
open Po (El mu pwr ev S)
open Rm (al sy)

theorem al_nums : al 0 = 1 ∧ al 1 = 2 ∧ al 2 = 4 ∧ al 3 = 8 := by
  refine ⟨?_, ?_, ?_, ?_⟩ <;> refine Po.el_ext ?_ <;> rw [Rm.al_toNat] <;> decide +kernel
theorem arr4 (F : Nat → El) : arr 4 F = [.int .u8 (oe (F 0)), .int .u8 (oe (F 1)), .int .u8 (oe (F 2)), .int .u8 (oe (F 3))] := rfl
/-- while Values works: the word lies in B, the result's block C may be written -/
structure VsS (B C : Nat) (L : List Value) (w W : World) : Prop where
  at_ : W.rangeAt B 0 L
  free : W.there C 0 4
  lt : B < W.heap.size ∧ C < W.heap.size
  below : Below B w W
theorem range_of {W W' : World} {b o : Nat} {cs : List Value} (h : W.rangeAt b o cs) (k : W'.heap[b]? = W.heap[b]?) : W'.rangeAt b o cs := fun j v hv => (World.cell?_of_block (w := W) (a := ⟨b, o + j, none⟩) k).trans (h j v hv)
theorem there_of {W W' : World} {b o n : Nat} (h : W.there b o n) (k : W'.heap[b]? = W.heap[b]?) : W'.there b o n := fun j hj => by
  have := h j hj
  rw [World.cell?_of_block (w := W) (a := ⟨b, o + j, none⟩) k, World.frozen?_of_block (w := W) (a := ⟨b, o + j, none⟩) k]; exact this
theorem VsS.next {B C : Nat} {L : List Value} {w W W' : World} (h : VsS B C L w W) (k : Below W.heap.size W W') : VsS B C L w W' :=
  ⟨range_of h.at_ (k.block B h.lt.1), there_of h.free (k.block C h.lt.2), ⟨Nat.lt_of_lt_of_le h.lt.1 k.size, Nat.lt_of_lt_of_le h.lt.2 k.size⟩, h.below.trans (k.mono (Nat.le_of_lt h.lt.1))⟩
theorem VsS.drew {B C : Nat} {L : List Value} {w W : World} (h : VsS B C L w W) : VsS B C L w W.drew := h.next (below_stay (Below.refl _ W) (Stay.drewN _ W 1) (Nat.le_refl _))
theorem VsS.put {B C : Nat} {L : List Value} {w W : World} (h : VsS B C L w W) (hBC : B < C) (vs : List Value) : VsS B C L w (W.setCells C 0 vs) :=
  ⟨World.rangeAt_setCells_apart h.at_ C 0 vs (.inl (by omega)), World.there_setCells h.free C 0 vs, by
    have := (below_put5 (B := C) (b := C) (Nat.le_refl _) vs 0 (Below.refl C W)).size
    exact ⟨Nat.lt_of_lt_of_le h.lt.1 this, Nat.lt_of_lt_of_le h.lt.2 this⟩, below_put5 (Nat.le_of_lt hBC) vs 0 h.below⟩
theorem VsS.all {B C : Nat} {L : List Value} {w W : World} (h : VsS B C L w W) : W.rangeAt B 0 L ∧ W.there C 0 4 ∧ VsS B C L w W := ⟨h.at_, h.free, h⟩
theorem zero4 (w : World) : (zeroValue 73).run Tryd.prog w = .ok (.agg (arr 4 fun _ => 0).toArray) w := by kernel_rfl
theorem info4 : (Tryd.prog.info? 73).map (·.size) = some 4 := by kernel_rfl
end Go.Proofs.YtdjknaafefnlcaaDoor
