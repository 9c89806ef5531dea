/-
  The law BitSums.
-/
import Derived.Test.YtfjhaihingmnoaaBitW4
import Derived.Laws.BitsAllLaws
import Derived.OpenShut
namespace Go.Proofs.Ytfjhaihingmnoaa
open Go.RowKit
open Bm (wt wtK)

theorem xor01 (a b c : Nat) (h : c % 2 = (a + b) % 2) : bits .xor .i64 ((a % 2 : Nat) : Int) ((b % 2 : Nat) : Int) = ((c % 2 : Nat) : Int) := by
  rw [h]
  have e : (a + b) % 2 = (a % 2 + b % 2) % 2 := by omega
  rw [e]
  rcases Nat.mod_two_eq_zero_or_one a with h1 | h1 <;> rcases Nat.mod_two_eq_zero_or_one b with h2 | h2 <;> rw [h1, h2] <;> decide
theorem wt_xor (a b : Nat) : wt (a ^^^ b) + 2 * wt (a &&& b) = wt a + wt b := Bm.wtK_xor 64 a b
theorem wt_or (a b : Nat) (ha : a < 18446744073709551616) : wt (a ||| b) = wt a + wt (b &&& (18446744073709551615 - a)) := by
  refine Bm.wtK_or 64 a b _ fun i => ?_
  by_cases hi : i < 64
  · left
    rw [Nat.testBit_and, show (18446744073709551615 : Nat) - a = 2 ^ 64 - (a + 1) from by omega, Nat.testBit_two_pow_sub_succ (by omega)]
    simp [hi]
  · right; omega

set_option maxRecDepth 100000 in
set_option maxHeartbeats 2000000 in
theorem bitSums_walk (a b : Int) (w0 : (Lit.int .u64 a).wf = true) (w1 : (Lit.int .u64 b).wf = true) (w : World) :
    Calls Try.prog 4 #[.int .u64 a, .int .u64 b] w fun e w' => e = .returned (.bool true) ∧ Below w.heap.size w w' := by
  have ra := bounds_u64 w0
  have rb := bounds_u64 w1
  obtain ⟨a, rfl⟩ := Int.eq_ofNat_of_zero_le ra.1
  obtain ⟨b, rfl⟩ := Int.eq_ofNat_of_zero_le rb.1
  have ha : a < 18446744073709551616 := by omega
  have hb : b < 18446744073709551616 := by omega
  obtain ⟨X, hX, rX, HX⟩ : ∃ X : Nat, bits .xor .u64 (a : Int) (b : Int) = (X : Int) ∧ X < 18446744073709551616 ∧ Hid (a ^^^ b = X) := ⟨_, u64_xor_nat a b ha hb, Nat.xor_lt_two_pow (n := 64) ha hb, rfl⟩
  obtain ⟨A, hA, rA, HA⟩ : ∃ A : Nat, bits .and .u64 (a : Int) (b : Int) = (A : Int) ∧ A < 18446744073709551616 ∧ Hid (a &&& b = A) := ⟨_, u64_and_nat a b ha hb, Nat.lt_of_le_of_lt Nat.and_le_left ha, rfl⟩
  obtain ⟨O, hO, rO, HO⟩ : ∃ O : Nat, bits .or .u64 (a : Int) (b : Int) = (O : Int) ∧ O < 18446744073709551616 ∧ Hid (a ||| b = O) := ⟨_, u64_or_nat a b ha hb, Nat.or_lt_two_pow (n := 64) ha hb, rfl⟩
  obtain ⟨N, hN, rN, HN⟩ : ∃ N : Nat, bits .andNot .u64 (b : Int) (a : Int) = (N : Int) ∧ N < 18446744073709551616 ∧ Hid (b &&& (18446744073709551615 - a) = N) := ⟨_, u64_andNot_nat b a hb ha, Nat.lt_of_le_of_lt Nat.and_le_left hb, rfl⟩
  have q1 := wt_xor a b
  have q2 := wt_or a b ha
  rw [HX.out, HA.out] at q1
  rw [HO.out, HN.out] at q2
  obtain ⟨f, Hf, hf⟩ : ∃ f : Nat → Nat, Hid (wt = f) ∧ Hid (∀ x, f x ≤ 64) := ⟨wt, rfl, Bm.wt_le⟩
  rw [Hf.out] at q1 q2
  have cW : Hid (∀ (x : Nat) (_ : x < 18446744073709551616) (w : World), Calls Try.prog 10 #[.int .u64 (x : Int)] w fun e w' => e = .returned (.int .i64 (f x : Int)) ∧ w' = w) := by rw [← Hf.out]; exact weight64_any
  have cP : Hid (∀ (x : Nat) (_ : x < 18446744073709551616) (w : World), Calls Try.prog 9 #[.int .u64 (x : Int)] w fun e w' => e = .returned (.int .i64 ((f x % 2 : Nat) : Int)) ∧ w' = w) := by rw [← Hf.out]; exact parity64_any
  have p1 : bits .xor .i64 ((f a : Int) % 2) ((f b : Int) % 2) = (f X : Int) % 2 := xor01 (f a) (f b) (f X) (by omega)
  have la := hf.out a; have lb := hf.out b; have lX := hf.out X; have lA := hf.out A; have lO := hf.out O; have lN := hf.out N
  have e2 : ((f X : Int) == (f a : Int) + (f b : Int) - 2 * (f A : Int)) = true := by rw [beq_iff_eq]; omega
  have e3 : ((f O : Int) == (f a : Int) + (f N : Int)) = true := by rw [beq_iff_eq]; omega
  clear w0 w1 ra rb
  go_enter Try.func4, Try.ntmps4
  go_wp2_with (first | (go_at_call 5; refine (anchor_any _).mono ?_; rintro e W ⟨rfl, hB⟩) | (go_at_call 10; refine (cW.out _ (by assumption) _).mono ?_; rintro e w' ⟨rfl, rfl⟩) | (go_at_call 9; refine (cP.out _ (by assumption) _).mono ?_; rintro e w' ⟨rfl, rfl⟩))
  go_ret
  exact ⟨rfl, hB⟩
end Go.Proofs.Ytfjhaihingmnoaa
