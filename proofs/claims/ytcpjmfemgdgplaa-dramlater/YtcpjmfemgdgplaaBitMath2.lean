/-
  What is left of a word when its lowest ones are taken, one by one.
-/
import Derived.Test.YtcpjmfemgdgplaaBitMath
namespace Go.Proofs.Ytcpjmfemgdgplaa.Bm
open Go Go.RowKit

/-- v without its lowest q bits -/
def lef (v q : Nat) : Nat := v / 2 ^ q * 2 ^ q
theorem lef_zero (v : Nat) : lef v 0 = v := by simp [lef]
theorem lef_div (v q r : Nat) (h : q ≤ r) : lef v q / 2 ^ r = v / 2 ^ r := by
  obtain ⟨d, rfl⟩ : ∃ d, r = q + d := ⟨r - q, by omega⟩
  unfold lef
  rw [Nat.pow_add, ← Nat.div_div_eq_div_mul, Nat.mul_div_cancel _ (Nat.two_pow_pos q), Nat.div_div_eq_div_mul]
theorem lef_le (v q : Nat) : lef v q ≤ v := Nat.div_mul_le_self v _
theorem lef_nil (v q r : Nat) (h : lef v q = 0) (hr : q ≤ r) : ¬ v / 2 ^ r % 2 = 1 := by
  rw [← lef_div v q r hr, h]; simp
theorem and_pred (p m : Nat) : (2 ^ p * (2 * m + 1)) &&& (2 ^ p * (2 * m + 1) - 1) = m * 2 ^ (p + 1) := by
  have hp := Nat.two_pow_pos p
  have e1 : 2 ^ p * (2 * m + 1) = 2 ^ (p + 1) * m + 2 ^ p := by rw [Nat.mul_add, Nat.mul_one, ← Nat.mul_assoc, ← Nat.pow_succ]
  have e2 : 2 ^ p * (2 * m + 1) - 1 = 2 ^ (p + 1) * m + (2 ^ p - 1) := by rw [e1]; omega
  have hq : 2 ^ p < 2 ^ (p + 1) := by rw [Nat.pow_succ]; omega
  rw [e2, e1]
  have d1 : (2 ^ (p + 1) * m + 2 ^ p) / 2 ^ (p + 1) = m := by rw [Nat.mul_add_div (Nat.two_pow_pos _), Nat.div_eq_of_lt hq]; omega
  have d2 : (2 ^ (p + 1) * m + (2 ^ p - 1)) / 2 ^ (p + 1) = m := by rw [Nat.mul_add_div (Nat.two_pow_pos _), Nat.div_eq_of_lt (by omega)]; omega
  have m1 : (2 ^ (p + 1) * m + 2 ^ p) % 2 ^ (p + 1) = 2 ^ p := by rw [Nat.mul_add_mod, Nat.mod_eq_of_lt hq]
  have m2 : (2 ^ (p + 1) * m + (2 ^ p - 1)) % 2 ^ (p + 1) = 2 ^ p - 1 := by rw [Nat.mul_add_mod, Nat.mod_eq_of_lt (by omega)]
  have h1 : ((2 ^ (p + 1) * m + 2 ^ p) &&& (2 ^ (p + 1) * m + (2 ^ p - 1))) / 2 ^ (p + 1) = m := by rw [Nat.and_div_two_pow, d1, d2, Nat.and_self]
  have h2 : ((2 ^ (p + 1) * m + 2 ^ p) &&& (2 ^ (p + 1) * m + (2 ^ p - 1))) % 2 ^ (p + 1) = 0 := by
    rw [Nat.and_mod_two_pow, m1, m2, Nat.and_two_pow_sub_one_eq_mod]; simp
  have := Nat.div_add_mod ((2 ^ (p + 1) * m + 2 ^ p) &&& (2 ^ (p + 1) * m + (2 ^ p - 1))) (2 ^ (p + 1))
  rw [h1, h2] at this
  rw [← this, Nat.mul_comm]; omega
theorem low_facts (K v q : Nat) (hK : K ≤ 64) (hv : v < 2 ^ K) (h : lef v q ≠ 0) : ∃ p, p < K ∧ q ≤ p ∧ Lib.ctz 64 (lef v q) = p ∧ (∀ r, q ≤ r → r < p → ¬ v / 2 ^ r % 2 = 1) ∧ v / 2 ^ p % 2 = 1 ∧ lef v q &&& (lef v q - 1) = lef v (p + 1) := by
  have hlt : lef v q < 2 ^ 64 := Nat.lt_of_le_of_lt (lef_le v q) (Nat.lt_of_lt_of_le hv (Nat.pow_le_pow_right (by decide) hK))
  obtain ⟨m, hm, _⟩ := Lib.ctzFrom_spec 64 (lef v q) (by omega) hlt
  obtain ⟨p, hp⟩ : ∃ p, Lib.ctz 64 (lef v q) = p := ⟨_, rfl⟩
  have hp' : Lib.ctzFrom 64 (lef v q) = p := by rw [← hp]; simp [Lib.ctz, h]
  rw [hp'] at hm
  have pos := Nat.two_pow_pos p
  have dp : lef v q / 2 ^ p = 2 * m + 1 := by rw [hm]; exact Nat.mul_div_cancel_left _ pos
  have hqp : q ≤ p := by
    refine Nat.le_of_not_lt fun hlt2 => ?_
    obtain ⟨d, rfl⟩ : ∃ d, q = p + (d + 1) := ⟨q - p - 1, by omega⟩
    have e : lef v (p + (d + 1)) / 2 ^ p = 2 * (v / 2 ^ (p + (d + 1)) * 2 ^ d) := by
      unfold lef
      generalize v / 2 ^ (p + (d + 1)) = z
      rw [Nat.pow_add, Nat.pow_succ, show z * (2 ^ p * (2 ^ d * 2)) = 2 ^ p * (2 * (z * 2 ^ d)) from by ac_rfl]
      exact Nat.mul_div_cancel_left _ pos
    rw [e] at dp; omega
  have one : v / 2 ^ p % 2 = 1 := by rw [← lef_div v q p hqp, dp]; omega
  have hpK : p < K := by
    refine Nat.lt_of_not_le fun hle => ?_
    have : v / 2 ^ p = 0 := Nat.div_eq_of_lt (Nat.lt_of_lt_of_le hv (Nat.pow_le_pow_right (by decide) hle))
    rw [this] at one; simp at one
  refine ⟨p, hpK, hqp, hp, ?_, one, ?_⟩
  · intro r hr hrp
    rw [← lef_div v q r hr, hm]
    obtain ⟨d, rfl⟩ : ∃ d, p = r + (d + 1) := ⟨p - r - 1, by omega⟩
    rw [Nat.pow_add, Nat.mul_assoc, Nat.mul_div_cancel_left _ (Nat.two_pow_pos r), Nat.pow_succ, Nat.mul_comm (2 ^ d) 2, Nat.mul_assoc]
    omega
  · have e : v / 2 ^ (p + 1) = m := by
      rw [← lef_div v q (p + 1) (by omega), Nat.pow_succ, ← Nat.div_div_eq_div_mul, dp]; omega
    rw [show lef v (p + 1) = m * 2 ^ (p + 1) from by unfold lef; rw [e]]
    have := and_pred p m
    rw [← hm] at this
    exact this
/-- the key of the table, of a word's lowest one -/
theorem tz_key (x a : Nat) (hx : x < 18446744073709551616) (hx0 : x ≠ 0) (hlow : x &&& (18446744073709551616 - x) = a) :
    IntKind.u64.wrap (bits .and .u64 (x : Int) (IntKind.u64.wrap (-(x : Int))) * 285870213051353865) / 288230376151711744 = ((a * 285870213051353865 % 18446744073709551616 / 288230376151711744 : Nat) : Int) := by
  have e1 : IntKind.u64.wrap (-(x : Int)) = ((18446744073709551616 - x : Nat) : Int) := by rw [IntKind.wrap_u64]; omega
  rw [e1, u64_and_nat x _ hx (by omega), hlow, IntKind.wrap_u64]
  omega
/-- a cursor goes on over what does not fit -/
theorem skips {J : Nat → World → Prop} {N : Nat} {p : Nat → Prop} (h : ∀ x W, x < N → ¬ p x → J x W → J (x + 1) W) (q r : Nat) (W : World) (hqr : q ≤ r) (hr : r ≤ N) (hp : ∀ x, q ≤ x → x < r → ¬ p x) (hJ : J q W) : J r W := by
  induction r with
  | zero => rw [show (0 : Nat) = q from by omega]; exact hJ
  | succ r ih =>
    by_cases e : q = r + 1
    · rw [← e]; exact hJ
    · exact h r W (by omega) (hp r (by omega) (by omega)) (ih (by omega) (by omega) (fun x h1 h2 => hp x h1 (by omega)))
end Go.Proofs.Ytcpjmfemgdgplaa.Bm
