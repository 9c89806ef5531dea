/-
  The walk of gf.New: the tables are filled, a round a power.
-/
import Derived.Test.YtdjknaafefnlcaaDoorGfW1
namespace Go.Proofs.YtdjknaafefnlcaaDoor
open Go.RowKit
open Gf (eI lI gI dI pI)

/-- the cells behind k rounds -/
def stage : Nat → Array Value
  | 0 => Array.replicate 511 (.int .u8 0)
  | k + 1 => ((stage k).setIfInBounds k (.int .u8 ((Gf.ex k : Nat) : Int))).setIfInBounds (255 + Gf.ex k) (.int .u8 (k : Int))
theorem stage_size (k : Nat) : (stage k).size = 511 := by
  induction k with
  | zero => simp [stage]
  | succ k ih => simp [stage, ih]
theorem stage_cell (k o : Nat) (h : o < 511) : ∃ v, (stage k)[o]? = some v :=
  ⟨(stage k)[o]'(by rw [stage_size]; exact h), Array.getElem?_eq_getElem (by rw [stage_size]; exact h)⟩
theorem stage_exp (k n : Nat) (hn : n < k) (hk : k ≤ 255) : (stage k)[n]? = some (.int .u8 ((Gf.ex n : Nat) : Int)) := by
  induction k with
  | zero => omega
  | succ k ih =>
    simp only [stage]
    rw [Array.getElem?_setIfInBounds_ne (by omega)]
    by_cases e : n = k
    · subst e; rw [Array.getElem?_setIfInBounds_self_of_lt (by rw [stage_size]; omega)]
    · rw [Array.getElem?_setIfInBounds_ne (by omega)]; exact ih (by omega) (by omega)
theorem stage_log (k a : Nat) (ha : a < 256) (hk : k ≤ 255) : (stage k)[255 + a]? = some (.int .u8 ((Gf.lgT k a : Nat) : Int)) := by
  induction k with
  | zero => rw [stage, Array.getElem?_replicate, if_pos (by omega)]; rfl
  | succ k ih =>
    simp only [stage, Gf.lgT]
    by_cases e : a = Gf.ex k
    · rw [if_pos e, e, Array.getElem?_setIfInBounds_self_of_lt (by simp [stage_size]; have := Gf.ex_lt k; omega)]
    · rw [if_neg e, Array.getElem?_setIfInBounds_ne (by omega), Array.getElem?_setIfInBounds_ne (by omega)]; exact ih (by omega)
/-- the field that New makes -/
def fieldCells : Array Value := stage 255
theorem fldAt_new (w : World) (t : TypeId) : FldAt (w.alloc (.cells fieldCells t)) w.heap.size := by
  constructor
  · intro n hn
    rw [World.cell?_alloc_new]
    exact stage_exp 255 n hn (Nat.le_refl _)
  · intro a ha
    rw [World.cell?_alloc_new]
    exact stage_log 255 a ha (Nat.le_refl _)

theorem zero_field (w : World) : (zeroValue 114).run Tryd.prog w = .ok (.agg (stage 0)) w := by kernel_rfl
set_option maxRecDepth 100000 in
set_option maxHeartbeats 400000 in
theorem new_any (w : World) :
    Calls Tryd.prog 28 #[] w fun e w' => e = .returned (.pointer (some ⟨w.heap.size, 0, none⟩)) ∧ w' = w.alloc (.cells fieldCells 114) := by
  have hz := zero_field
  go_enter Tryd.func28, Tryd.ntmps28
  go_wp2
  go_loopw [2, 6] (fun p i wr => ∃ k : Nat, k ≤ 255 ∧ i = .int .i64 k ∧ p = .int .u8 ((Gf.ex k : Nat) : Int) ∧ wr = w.alloc (.cells (stage k) 114)) (fun _ i _ => 255 - (intOf i).toNat)
  case atStart => exact ⟨0, by omega, rfl, rfl, rfl⟩
  case round =>
    obtain ⟨k, hk, rfl, rfl, rfl⟩ := hrel
    by_cases hlt : k < 255
    · have he := Gf.ex_lt k
      obtain ⟨v1, hv1⟩ := stage_cell k k (by omega)
      obtain ⟨v2, hv2⟩ : ∃ v, ((stage k).setIfInBounds k (.int .u8 ((Gf.ex k : Nat) : Int)))[255 + Gf.ex k]? = some v := by
        rw [Array.getElem?_setIfInBounds_ne (by omega)]; exact stage_cell k _ (by omega)
      go_wp2_with (go_at_call 59; refine (timesX_any _ (by omega) (by omega) _).mono ?_; rintro e w' ⟨rfl, rfl⟩)
      go_roundw
      case rel => exact ⟨k + 1, by omega, by go_num, rfl, rfl⟩
      case measure => simp [intOf]; omega
    · have : k = 255 := by omega
      subst this
      go_wp2
      go_ret
      exact ⟨rfl, rfl⟩

end Go.Proofs.YtdjknaafefnlcaaDoor
