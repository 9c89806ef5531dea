/-
  Whose a bit is; how many bits, or bytes, of two words are unlike.
-/
import Derived.Test.YtdjknaafefnlcaaDoorRwW1
import Derived.Test.YtdjknaafefnlcaaDoorBitW7
import Derived.Test.YtdjknaafefnlcaaDoorAry
import Derived.OwnWalk
import Derived.Deep.DeepCutAuto
namespace Go.Proofs.YtdjknaafefnlcaaDoor
open Go.RowKit
open Bm (wt wtK)
attribute [local go_sem] Oper.semAt_some


/-- n bytes of a block, as functions of Nat -/
def pc (F : Nat → Int) (o n j : Nat) : Nat := if j < n then (F (o + j)).toNat else 0
theorem pc_sl (F : Nat → Int) (w : World) (A o n c : Nat) (hF : Byts 72 F) (h : Bk .u8 w A 72 F) (hn : o + n ≤ 72) (hc : n ≤ c) : Sl w (some ⟨A, o, none⟩) n c (pc F o n) :=
  ⟨fun _ => ⟨A, o, rfl, fun j hj => by
    have := hF (o + j) (by omega)
    rw [h.cell (o + j) (by omega)]
    unfold pc
    rw [if_pos hj]
    congr 2; omega⟩, fun j => by
    unfold pc
    split
    · have := hF (o + j) (by omega); omega
    · decide, fun j hj => by unfold pc; rw [if_neg (by omega)], hc, fun e => by cases e⟩
theorem pc_byt (F : Nat → Int) (o n j : Nat) (hF : Byts 72 F) (hn : o + n ≤ 72) : pc F o n j < 256 := by
  unfold pc
  split
  · have := hF (o + j) (by omega); omega
  · decide
theorem dif_sm (F G : Nat → Int) (o n : Nat) (hF : Byts 72 F) (hG : Byts 72 G) (hn : o + n ≤ 72) : ∀ j, j ≤ n → dif (pc F o n) (pc G o n) (8 * j) = Rw.sm 1 F G o j
  | 0, _ => rfl
  | j + 1, hj => by
    rw [dif_byte _ _ j (pc_byt F o n j hF hn) (pc_byt G o n j hG hn), dif_sm F G o n hF hG hn j (by omega), Rw.sm]
    unfold Rw.dl pc
    rw [if_pos rfl, if_pos (by omega), if_pos (by omega)]

end Go.Proofs.YtdjknaafefnlcaaDoor
