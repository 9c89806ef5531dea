/-
  Ones: the lowest one of a word, by math/bits' table; the iterator that tells the ones of a word; the document's bit.
-/
import Derived.Test.YtkbbnpjjfhmlkaaBitW4
import Derived.Test.YtkbbnpjjfhmlkaaBitMath2
import Derived.Test.YtkbbnpjjfhmlkaaDoorTab
import Derived.Test.YtkbbnpjjfhmlkaaQuiet
namespace Go.Proofs.Ytkbbnpjjfhmlkaa
open Go.RowKit Go.Shelf
open Bm (wt wtK lef)
attribute [local go_sem] Oper.semAt_some



set_option maxHeartbeats 1000000 in
theorem refBit_any (x i : Nat) (hx : x < 18446744073709551616) (hi : i ≤ 64) (w : World) :
    Calls Try.prog 32 #[.int .u64 (x : Int), .int .i64 (i : Int)] w fun e w' => e = .returned (.int .i64 ((x / 2 ^ i % 2 : Nat) : Int)) ∧ w' = w := by
  obtain ⟨b, hb, Hb⟩ : ∃ b, b ≤ 1 ∧ Hid (x / 2 ^ i % 2 = b) := ⟨_, by omega, rfl⟩
  rw [Hb.out]
  go_enter Try.func32, Try.ntmps32
  go_wp2
  go_loop [0, 5] (fun a b => ∃ k y : Nat, k ≤ i ∧ y < 18446744073709551616 ∧ Hid (y = x / 2 ^ k) ∧ a = .int .u64 (y : Int) ∧ b = .int .i64 (k : Int)) (fun _ b => i - (intOf b).toNat)
  case atStart => exact ⟨0, x, by omega, hx, by show _ = _; simp, rfl, rfl⟩
  case round =>
    obtain ⟨k, y, hk, hy, Hy, rfl, rfl⟩ := hrel
    by_cases hlt : k < i
    · have e2 : (y : Int).tdiv 2 = ((y / 2 : Nat) : Int) := by rw [Int.tdiv_eq_ediv_of_nonneg (by omega)]; rfl
      have Hy' : Hid (y / 2 = x / 2 ^ (k + 1)) := by show _ = _; rw [Hy.out, Nat.div_div_eq_div_mul, ← Nat.pow_succ]
      go_wp2_with (simp only [e2])
      go_round
      case rel => exact ⟨k + 1, y / 2, by omega, by omega, Hy', by first | rfl | go_num, by first | rfl | go_num⟩
      case measure => simp [intOf]; omega
    · have hki : k = i := by omega
      have e1 : (y : Int).tmod 2 = ((y % 2 : Nat) : Int) := by rw [Int.tmod_eq_emod_of_nonneg (by omega)]; rfl
      have hy2 : y % 2 ≤ 1 := by omega
      have He : y % 2 = b := by rw [← Hb.out, ← hki, Hy.out]
      rw [He] at e1 hy2
      clear Hy He Hb
      subst hki
      go_wp2_with (simp only [e1])
      go_ret
      exact ⟨rfl, rfl⟩
end Go.Proofs.Ytkbbnpjjfhmlkaa
