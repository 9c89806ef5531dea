/-
  The walks of package bit, the leaves: the weight of a word of each width, its parity; the document's weight.
-/
import Derived.Test.YtalbloeaojpbgaaRows
import Derived.Test.YtalbloeaojpbgaaBitMath
import Derived.Test.YtalbloeaojpbgaaRange
import Derived.WalkKit
import Derived.WalkSpells
import Derived.WalkLawsBesides
import Derived.Deep.QuietTactic
import Derived.BigQuiet
namespace Go.Proofs.Ytalbloeaojpbgaa
open Go.RowKit
open Bm (wt wtK)

set_option maxHeartbeats 1000000 in
theorem onesCount_any (x : Nat) (hx : x < 18446744073709551616) (w : World) :
    Calls Try.prog 35 #[.int .u64 (x : Int)] w fun e w' => e = .returned (.int .i64 (wt x : Int)) ∧ w' = w := by
  obtain ⟨a1, a2, b1, b2, c, u, v, ⟨ha1, ha2⟩, ⟨ra1, ra2, ra⟩, ⟨hb1, hb2⟩, rb, hc, rc, hu, ru, hv, rv, rz, hz⟩ := Bm.ones64 x hx
  go_enter Try.func35, Try.ntmps35
  go_wp2_with (first | simp only [ha1] | simp only [ha2] | simp only [hb1] | simp only [hb2] | simp only [hc] | simp only [hu] | simp only [hv] | simp only [hz])
  go_ret
  exact ⟨rfl, rfl⟩




theorem weight64_any (x : Nat) (hx : x < 18446744073709551616) (w : World) :
    Calls Try.prog 34 #[.int .u64 (x : Int)] w fun e w' => e = .returned (.int .i64 (wt x : Int)) ∧ w' = w := by
  have hx' : x < 18446744073709551616 := by omega
  go_enter Try.func34, Try.ntmps34
  go_wp2_with (go_at_call 35; refine (onesCount_any _ hx' _).mono ?_; rintro e w' ⟨rfl, rfl⟩)
  go_ret
  exact ⟨rfl, rfl⟩

end Go.Proofs.Ytalbloeaojpbgaa
