/-
  The walks of the document's own answers: products by division, quotients, powers.
-/
import Derived.Test.YtdjknaafefnlcaaDoorGfW2
namespace Go.Proofs.YtdjknaafefnlcaaDoor
open Go.RowKit
open Gf (eI lI gI dI pI)

theorem i64_xor_nat (a b : Nat) (ha : a < 65536) (hb : b < 65536) : bits .xor .i64 (a : Int) (b : Int) = ((a ^^^ b : Nat) : Int) := by
  have hx : a ^^^ b < 2 ^ 16 := Nat.xor_lt_two_pow (by simpa using ha) (by simpa using hb)
  show IntKind.i64.wrap ((BitVec.ofInt 64 (a : Int) ^^^ BitVec.ofInt 64 (b : Int)).toNat : Int) = _
  rw [BitVec.toNat_xor, ofInt_u64 a (by omega), ofInt_u64 b (by omega)]
  simp [IntKind.wrap, IntKind.bits, IntKind.signed]
  omega
theorem and1_eq (y : Nat) (h : y < 256) : (bits .and .u8 (y : Int) 1 == 1) = decide (y % 2 = 1) := by
  have := u8_and_nat y 1 h (by decide)
  rw [show ((1 : Nat) : Int) = 1 from rfl] at this
  rw [this, nat_mask1]
  by_cases e : y % 2 = 1
  · simp [e]
  · have : y % 2 = 0 := by omega
    simp [this]

theorem l1_y (B k y : Nat) (h : Hid (y = B / 2 ^ k)) : Hid (y / 2 = B / 2 ^ (k + 1)) := by
  have := h.out; show _ = _; rw [this, Nat.div_div_eq_div_mul, Nat.pow_succ]
theorem l1_z (A k z : Nat) (h : Hid (z = A * 2 ^ k)) : Hid (z * 2 = A * 2 ^ (k + 1)) := by
  have := h.out; show _ = _; rw [this, Nat.pow_succ, Nat.mul_assoc]
theorem l1_q1 (A B k y q z : Nat) (hy : Hid (y = B / 2 ^ k)) (hq : Hid (q = Gf.mp A B k)) (hz : Hid (z = A * 2 ^ k)) (h : y % 2 = 1) : Hid (q ^^^ z = Gf.mp A B (k + 1)) := by
  show _ = _; rw [Gf.mp, ← hy.out, if_pos h, hq.out, hz.out]
theorem l1_q0 (A B k y q : Nat) (hy : Hid (y = B / 2 ^ k)) (hq : Hid (q = Gf.mp A B k)) (h : ¬ y % 2 = 1) : Hid (q = Gf.mp A B (k + 1)) := by
  show _ = _; rw [Gf.mp, ← hy.out, if_neg h, hq.out]
theorem l1_qb (A B k q : Nat) (hA : A < 256) (hk : k ≤ 8) (hq : Hid (q = Gf.mp A B k)) : q < 65536 := by
  rw [hq.out]; exact Nat.lt_of_lt_of_le (Gf.mp_lt A B k hA) (Nat.pow_le_pow_right (n := 2) (i := 8 + k) (j := 16) (by decide) (by omega))
theorem l1_zb (A k z : Nat) (hA : A < 256) (hk : k ≤ 8) (hz : Hid (z = A * 2 ^ k)) : z < 65536 := by
  rw [hz.out]
  have h1 : 2 ^ k ≤ 2 ^ 8 := Nat.pow_le_pow_right (by decide) hk
  have h2 : A * 2 ^ k ≤ 255 * 2 ^ 8 := Nat.mul_le_mul (by omega) h1
  omega
theorem l2_1 (P m q d : Nat) (hm : 8 ≤ m) (hm' : m ≤ 14) (hq : Hid (q = Gf.mr P (14 - m))) (hd : Hid (d = 2 ^ m)) (h : q / d % 2 = 1) : Hid (q ^^^ (285 * d / 256) = Gf.mr P (14 - (m - 1))) := by
  show _ = _
  rw [show 14 - (m - 1) = (14 - m) + 1 from by omega, Gf.mr, ← hq.out, show 14 - (14 - m) = m from by omega, ← hd.out, if_pos h]
theorem l2_0 (P m q d : Nat) (hm : 8 ≤ m) (hm' : m ≤ 14) (hq : Hid (q = Gf.mr P (14 - m))) (hd : Hid (d = 2 ^ m)) (h : ¬ q / d % 2 = 1) : Hid (q = Gf.mr P (14 - (m - 1))) := by
  show _ = _
  rw [show 14 - (m - 1) = (14 - m) + 1 from by omega, Gf.mr, ← hq.out, show 14 - (14 - m) = m from by omega, ← hd.out, if_neg h]
theorem l2_qb (P j q : Nat) (hP : P < 65536) (hq : Hid (q = Gf.mr P j)) : q < 65536 := by
  rw [hq.out]; exact Gf.mr_lt P j hP
theorem l3_d (c d : Nat) (h : Hid (d = 2 ^ c)) : Hid (d * 2 = 2 ^ (c + 1)) := by
  have := h.out; show _ = _; rw [this, Nat.pow_succ]
theorem l3_b (c d m : Nat) (hm : m ≤ 14) (hc : c ≤ m) (h : Hid (d = 2 ^ c)) : 0 < d ∧ d ≤ 16384 := by
  have h1 : 2 ^ c ≤ 2 ^ 14 := Nat.pow_le_pow_right (by decide) (by omega)
  have h2 := Nat.two_pow_pos c
  rw [h.out]; omega




end Go.Proofs.YtdjknaafefnlcaaDoor
