/-
  The document's example.
-/
import Derived.Test.YtdjknaafefnlcaaDoorLnW4
import Derived.Deep.DeepCutAuto
namespace Go.Proofs.YtdjknaafefnlcaaDoor
open Go.RowKit Go.Shelf
open Ln (mrg hexd hxn hxl)
attribute [local go_sem] Oper.semAt_some

theorem mrg_byts (n : Nat) (F G : Nat → Int) (m : Nat) (hF : Byts n F) (hG : Byts n G) : Byts n (mrg F G m) := fun i hi => by
  unfold mrg
  split
  · exact hG i hi
  · exact hF i hi
def exL : Nat → Int := mrg (fun _ => 0) (fun _ => 7) 5
theorem exL_byts : Byts 64 exL := mrg_byts 64 _ _ 5 (fun _ _ => ⟨by omega, by omega⟩) (fun _ _ => ⟨by omega, by omega⟩)
theorem exL_at : exL 0 = 7 ∧ exL 1 = 0 ∧ exL 2 = 7 ∧ exL 3 = 0 := by decide +kernel
theorem exL_hex : (hxl exL 128).take 6 = [48, 55, 48, 48, 48, 55] := by decide +kernel
theorem exL_cut (w : World) : (Instr.sliceAt 9 (tx (hxl exL 128)) none (some (.int .i64 6)) none).run Tryd.prog w = .ok (tx [48, 55, 48, 48, 48, 55]) w := by
  have hl := Ln.hxl_len exL 128
  have ht := exL_hex
  obtain ⟨l, h⟩ : ∃ l, hxl exL 128 = l := ⟨_, rfl⟩
  rw [h] at hl ht ⊢
  have e : l = [48, 55, 48, 48, 48, 55] ++ l.drop 6 := by rw [← ht, List.take_append_drop]
  simp [Instr.sliceAt, go_sem, hl]
  rw [e]
  apply ByteArray.ext
  simp

end Go.Proofs.YtdjknaafefnlcaaDoor
