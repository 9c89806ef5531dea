/-
  The walks of package bit, the leaves: the weight of a word of each width, its parity; the document's weight.
-/
import Derived.Test.YtcpjmfemgdgplaaRows
import Derived.Test.YtcpjmfemgdgplaaBitMath
import Derived.Test.YtcpjmfemgdgplaaRange
import Derived.WalkKit
import Derived.WalkSpells
import Derived.WalkLawsBesides
import Derived.Deep.QuietTactic
import Derived.BigQuiet
namespace Go.Proofs.Ytcpjmfemgdgplaa
open Go.RowKit
open Bm (wt wtK)

set_option maxHeartbeats 1000000 in
theorem onesCount_any (x : Nat) (hx : x < 18446744073709551616) (w : World) :
    Calls Try.prog 87 #[.int .u64 (x : Int)] w fun e w' => e = .returned (.int .i64 (wt x : Int)) ∧ w' = w := by
  obtain ⟨a1, a2, b1, b2, c, u, v, ⟨ha1, ha2⟩, ⟨ra1, ra2, ra⟩, ⟨hb1, hb2⟩, rb, hc, rc, hu, ru, hv, rv, rz, hz⟩ := Bm.ones64 x hx
  go_enter Try.func87, Try.ntmps87
  go_wp2_with (first | simp only [ha1] | simp only [ha2] | simp only [hb1] | simp only [hb2] | simp only [hc] | simp only [hu] | simp only [hv] | simp only [hz])
  go_ret
  exact ⟨rfl, rfl⟩




theorem weight64_any (x : Nat) (hx : x < 18446744073709551616) (w : World) :
    Calls Try.prog 81 #[.int .u64 (x : Int)] w fun e w' => e = .returned (.int .i64 (wt x : Int)) ∧ w' = w := by
  have hx' : x < 18446744073709551616 := by omega
  go_enter Try.func81, Try.ntmps81
  go_wp2_with (go_at_call 87; refine (onesCount_any _ hx' _).mono ?_; rintro e w' ⟨rfl, rfl⟩)
  go_ret
  exact ⟨rfl, rfl⟩

set_option maxHeartbeats 1000000 in
theorem refWeight_any (x : Nat) (hx : x < 18446744073709551616) (w : World) :
    Calls Try.prog 53 #[.int .u64 (x : Int)] w fun e w' => e = .returned (.int .i64 (wt x : Int)) ∧ w' = w := by
  go_enter Try.func53, Try.ntmps53
  go_wp2
  go_loop [0, 3] (fun a b => ∃ y n : Nat, y < 18446744073709551616 ∧ n ≤ 64 ∧ wt y ≤ 64 ∧ n + wt y ≤ 64 ∧ Hid (n + wt y = wt x) ∧ a = .int .u64 (y : Int) ∧ b = .int .i64 (n : Int)) (fun a _ => (intOf a).toNat)
  case atStart => exact ⟨x, 0, hx, by omega, Bm.wt_le x, by have := Bm.wt_le x; omega, by show _ = _; omega, rfl, rfl⟩
  case round =>
    obtain ⟨y, n, hy, hn, hw, hs, Hs, rfl, rfl⟩ := hrel
    by_cases h0 : 0 < y
    · have st := Bm.wt_step y hy
      have h2 : n + y % 2 ≤ 64 := by omega
      have e1 : (y : Int).tmod 2 = ((y % 2 : Nat) : Int) := by rw [Int.tmod_eq_emod_of_nonneg (by omega)]; rfl
      have e2 : (y : Int).tdiv 2 = ((y / 2 : Nat) : Int) := by rw [Int.tdiv_eq_ediv_of_nonneg (by omega)]; rfl
      go_wp2_with (first | simp only [e1] | simp only [e2])
      go_round
      case rel => exact ⟨y / 2, n + y % 2, by omega, h2, by omega, by omega, by have := Hs.out; show _ = _; omega, by first | rfl | go_num, by first | rfl | go_num⟩
      case measure => simp [intOf]; omega
    · have e : n = wt x := by have := Hs.out; rw [show y = 0 from by omega, Bm.wt_zero] at this; omega
      have He : Hid (n = wt x) := e
      have hy0 : y = 0 := by omega
      clear e Hs hs hw h0
      subst hy0
      go_wp2
      go_ret
      exact ⟨by rw [← He.out]; rfl, rfl⟩
end Go.Proofs.Ytcpjmfemgdgplaa
