/-
  How much two lines' raw bytes are exposed to one another, by the program.
-/
import Derived.Test.YtcpjmfemgdgplaaRwW2
import Derived.Deep.DeepCutAuto
import Derived.Test.YtcpjmfemgdgplaaRound2
namespace Go.Proofs.Ytcpjmfemgdgplaa
open Go.RowKit
open Bm (wt wtK)
attribute [local go_sem] Oper.semAt_some

/-- the exposure -/
def ex (m n k : Int) (F G : Nat → Int) : Nat := Rw.mx m F G n.toNat k.toNat
theorem cut9 (b i : Nat) (hi : i < 8) (w : World) : (Instr.sliceAt 40 (.pointer (some ⟨b, 0, none⟩)) (some (.int .i64 ((i : Int) * 9))) (some (.int .i64 (((i : Int) + 1) * 9))) none).run Try.prog w = .ok (.slice (some ⟨b, 9 * i, none⟩) 9 (72 - 9 * i)) w := by
  obtain rfl | rfl | rfl | rfl | rfl | rfl | rfl | rfl : i = 0 ∨ i = 1 ∨ i = 2 ∨ i = 3 ∨ i = 4 ∨ i = 5 ∨ i = 6 ∨ i = 7 := by omega
  all_goals simp [Instr.sliceAt, go_sem]
theorem cut36 (b i : Nat) (hi : i < 2) (w : World) : (Instr.sliceAt 40 (.pointer (some ⟨b, 0, none⟩)) (some (.int .i64 ((i : Int) * 36))) (some (.int .i64 (((i : Int) + 1) * 36))) none).run Try.prog w = .ok (.slice (some ⟨b, 36 * i, none⟩) 36 (72 - 36 * i)) w := by
  obtain rfl | rfl : i = 0 ∨ i = 1 := by omega
  all_goals simp [Instr.sliceAt, go_sem]

end Go.Proofs.Ytcpjmfemgdgplaa
