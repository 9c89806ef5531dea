/-
  Bits forced, by the program and by the document.
-/
import Derived.Test.YtdjknaafefnlcaaDoorRwW9
namespace Go.Proofs.YtdjknaafefnlcaaDoor
open Go.RowKit Go.Shelf
attribute [local go_sem] Oper.semAt_some

theorem i64_and1r (n : Int) : bits .and .i64 n 1 = n % 2 := by
  have h1 : (BitVec.ofInt 64 1).toNat = 2 ^ 1 - 1 := by decide
  have key : (BitVec.ofInt 64 n &&& BitVec.ofInt 64 1).toNat = (n % ((2 ^ 64 : Nat) : Int)).toNat % 2 ^ 1 := by
    rw [BitVec.toNat_and, BitVec.toNat_ofInt, h1, Nat.and_two_pow_sub_one_eq_mod]
  show IntKind.i64.wrap ((BitVec.ofInt 64 n &&& BitVec.ofInt 64 1).toNat : Nat) = n % 2
  rw [key, IntKind.wrap_i64]
  omega
/-- F with the bit i as v -/
def frR (F : Nat → Int) (i v : Nat) : Nat → Int := fun j => if j = i / 8 then ((Rw.fc (F j).toNat (i % 8) v : Nat) : Int) else F j
theorem gb_pc (F : Nat → Int) (i : Nat) (hi : i < 576) : gb (pc F 0 72) i = (F (i / 8)).toNat / 2 ^ (i % 8) % 2 := by
  unfold gb pc
  rw [if_pos (by omega), Nat.zero_add]
theorem frR_stay (F : Nat → Int) (hF : Byts 72 F) (i : Nat) (hi : i < 576) (j : Nat) (hj : j < 72) : F j = frR F i (gb (pc F 0 72) i) j := by
  unfold frR
  by_cases e : j = i / 8
  · have := hF j hj
    rw [if_pos e, gb_pc F i hi, ← e, ← Rw.fc_stay (F j).toNat (by omega) (i % 8) (by omega)]; omega
  · rw [if_neg e]
theorem frR_flip (F : Nat → Int) (hF : Byts 72 F) (i : Nat) (hi : i < 576) (j : Nat) (hj : j < 72) : flR F i j = frR F i (1 - gb (pc F 0 72) i) j := by
  rw [flR_at F hF i j hj]
  unfold frR
  by_cases e : j = i / 8
  · have := hF j hj
    rw [if_pos e, if_pos e, gb_pc F i hi, ← e, ← Rw.fc_flip (F j).toNat (by omega) (i % 8) (by omega)]
  · rw [if_neg e, if_neg e]

end Go.Proofs.YtdjknaafefnlcaaDoor
