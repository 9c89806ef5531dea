/-
  A word's bytes told, and put.
-/
import Derived.Test.YtcpjmfemgdgplaaRwW7
import Derived.Test.YtcpjmfemgdgplaaAryCp
import Derived.Laws.MakeOwn
namespace Go.Proofs.Ytcpjmfemgdgplaa
open Go.RowKit Go.Shelf
attribute [local go_sem] Oper.semAt_some

theorem info9 : (Try.prog.info? 5).map (fun i => (i.zero, i.size, i.bytes)) = some (some (.int .u8 0), 1, 1) := by kernel_rfl
set_option maxRecDepth 100000 in
theorem run_make9 (n : Nat) (hn : n ≤ 1000) (w : World) : (Instr.makeSlice 105 (.int .i64 (n : Int)) (.int .i64 (n : Int))).run Try.prog w = .ok (.slice (some ⟨w.heap.size, 0, none⟩) n n) (w.alloc (.cells (ints .u8 n fun _ => 0).toArray 5)) := by
  have h := run_make_row' (P := Try.prog) 105 5 (.int .u8 0) 1 Try.underlying105 info9 rfl .i64 .i64 n (by omega) (by omega) w
  rw [h]
  congr 3
  unfold madeCells ints
  refine Array.ext' ?_
  simp [Nat.mod_one]
theorem cutR (b o : Nat) (ho : o < 72) (w : World) : (Instr.sliceAt 40 (.pointer (some ⟨b, 0, none⟩)) (some (.int .i64 (o : Int))) none none).run Try.prog w = .ok (.slice (some ⟨b, o, none⟩) (72 - o) (72 - o)) w := by
  have h1 : (o : Int) ≤ 72 := by omega
  have h2 : ¬ 72 = o := by omega
  simp [Instr.sliceAt, go_sem]
  rw [if_pos h1, if_neg h2]

end Go.Proofs.Ytcpjmfemgdgplaa
