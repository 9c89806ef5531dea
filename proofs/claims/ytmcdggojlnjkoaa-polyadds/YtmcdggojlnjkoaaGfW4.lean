/-
  The walks of Pow, and of the document's powers; the law GfLogs.
-/
import Derived.Test.YtmcdggojlnjkoaaGfLaws
import Derived.Deep.DeepCutAuto
namespace Go.Proofs.Ytmcdggojlnjkoaa
open Go.RowKit
open Gf (eI lI gI dI pI)






set_option maxHeartbeats 400000 in
theorem refPow_any (a n : Int) (ha0 : 0 ≤ a) (ha1 : a < 256) (hn : 0 ≤ n) (hn1 : n < 4611686018427387904) (w : World) :
    Calls Try.prog 27 #[.int .u8 a, .int .i64 n] w fun e w' => e = .returned (.int .u8 (pI a n)) ∧ w' = w := by
  go_enter Try.func27, Try.ntmps27
  go_wp2
  go_loop [5, 6] (fun p i => ∃ k x : Int, 0 ≤ k ∧ k ≤ n ∧ 0 ≤ x ∧ x < 256 ∧ Hid (x = pI a k) ∧ i = .int .i64 k ∧ p = .int .u8 x) (fun _ i => (n - intOf i).toNat)
  case atStart => exact ⟨0, 1, by omega, by omega, by omega, by omega, (Gf.pI_zero a).symm, rfl, rfl⟩
  case round =>
    obtain ⟨k, x, hk0, hk1, hx0, hx1, Hx, rfl, rfl⟩ := hrel
    by_cases hlt : k < n
    · have hg := Gf.gI_bd x a
      have Hx' : Hid (gI x a = pI a (k + 1)) := by show _ = _; rw [Gf.pI_step a k hk0, Hx.out]
      go_wp2_with (go_at_call 16; refine (refMul_any _ _ (by omega) (by omega) (by omega) (by omega) _).mono ?_; rintro e w' ⟨rfl, rfl⟩)
      go_round
      case rel => exact ⟨k + 1, gI x a, by omega, by omega, hg.1, hg.2, Hx', by go_num, rfl⟩
      case measure => simp [intOf]; omega
    · have : k = n := by omega
      subst this
      go_wp2
      go_ret
      exact ⟨ret_int Hx.out, rfl⟩


end Go.Proofs.Ytmcdggojlnjkoaa
