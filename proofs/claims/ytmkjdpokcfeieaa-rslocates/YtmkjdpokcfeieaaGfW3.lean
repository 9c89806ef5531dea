/-
  The walks of the document's own answers: products by division, quotients, powers.
-/
import Derived.Test.YtmkjdpokcfeieaaGfW2
namespace Go.Proofs.Ytmkjdpokcfeieaa
open Go.RowKit
open Gf (eI lI gI dI pI)

theorem i64_xor_nat (a b : Nat) (ha : a < 65536) (hb : b < 65536) : bits .xor .i64 (a : Int) (b : Int) = ((a ^^^ b : Nat) : Int) := by
  have hx : a ^^^ b < 2 ^ 16 := Nat.xor_lt_two_pow (by simpa using ha) (by simpa using hb)
  show IntKind.i64.wrap ((BitVec.ofInt 64 (a : Int) ^^^ BitVec.ofInt 64 (b : Int)).toNat : Int) = _
  rw [BitVec.toNat_xor, ofInt_u64 a (by omega), ofInt_u64 b (by omega)]
  simp [IntKind.wrap, IntKind.bits, IntKind.signed]
  omega
theorem and1_eq (y : Nat) (h : y < 256) : (bits .and .u8 (y : Int) 1 == 1) = decide (y % 2 = 1) := by
  have := u8_and_nat y 1 h (by decide)
  rw [show ((1 : Nat) : Int) = 1 from rfl] at this
  rw [this, nat_mask1]
  by_cases e : y % 2 = 1
  · simp [e]
  · have : y % 2 = 0 := by omega
    simp [this]

theorem l1_y (B k y : Nat) (h : Hid (y = B / 2 ^ k)) : Hid (y / 2 = B / 2 ^ (k + 1)) := by
  have := h.out; show _ = _; rw [this, Nat.div_div_eq_div_mul, Nat.pow_succ]
theorem l1_z (A k z : Nat) (h : Hid (z = A * 2 ^ k)) : Hid (z * 2 = A * 2 ^ (k + 1)) := by
  have := h.out; show _ = _; rw [this, Nat.pow_succ, Nat.mul_assoc]
theorem l1_q1 (A B k y q z : Nat) (hy : Hid (y = B / 2 ^ k)) (hq : Hid (q = Gf.mp A B k)) (hz : Hid (z = A * 2 ^ k)) (h : y % 2 = 1) : Hid (q ^^^ z = Gf.mp A B (k + 1)) := by
  show _ = _; rw [Gf.mp, ← hy.out, if_pos h, hq.out, hz.out]
theorem l1_q0 (A B k y q : Nat) (hy : Hid (y = B / 2 ^ k)) (hq : Hid (q = Gf.mp A B k)) (h : ¬ y % 2 = 1) : Hid (q = Gf.mp A B (k + 1)) := by
  show _ = _; rw [Gf.mp, ← hy.out, if_neg h, hq.out]
theorem l1_qb (A B k q : Nat) (hA : A < 256) (hk : k ≤ 8) (hq : Hid (q = Gf.mp A B k)) : q < 65536 := by
  rw [hq.out]; exact Nat.lt_of_lt_of_le (Gf.mp_lt A B k hA) (Nat.pow_le_pow_right (n := 2) (i := 8 + k) (j := 16) (by decide) (by omega))
theorem l1_zb (A k z : Nat) (hA : A < 256) (hk : k ≤ 8) (hz : Hid (z = A * 2 ^ k)) : z < 65536 := by
  rw [hz.out]
  have h1 : 2 ^ k ≤ 2 ^ 8 := Nat.pow_le_pow_right (by decide) hk
  have h2 : A * 2 ^ k ≤ 255 * 2 ^ 8 := Nat.mul_le_mul (by omega) h1
  omega
theorem l2_1 (P m q d : Nat) (hm : 8 ≤ m) (hm' : m ≤ 14) (hq : Hid (q = Gf.mr P (14 - m))) (hd : Hid (d = 2 ^ m)) (h : q / d % 2 = 1) : Hid (q ^^^ (285 * d / 256) = Gf.mr P (14 - (m - 1))) := by
  show _ = _
  rw [show 14 - (m - 1) = (14 - m) + 1 from by omega, Gf.mr, ← hq.out, show 14 - (14 - m) = m from by omega, ← hd.out, if_pos h]
theorem l2_0 (P m q d : Nat) (hm : 8 ≤ m) (hm' : m ≤ 14) (hq : Hid (q = Gf.mr P (14 - m))) (hd : Hid (d = 2 ^ m)) (h : ¬ q / d % 2 = 1) : Hid (q = Gf.mr P (14 - (m - 1))) := by
  show _ = _
  rw [show 14 - (m - 1) = (14 - m) + 1 from by omega, Gf.mr, ← hq.out, show 14 - (14 - m) = m from by omega, ← hd.out, if_neg h]
theorem l2_qb (P j q : Nat) (hP : P < 65536) (hq : Hid (q = Gf.mr P j)) : q < 65536 := by
  rw [hq.out]; exact Gf.mr_lt P j hP
theorem l3_d (c d : Nat) (h : Hid (d = 2 ^ c)) : Hid (d * 2 = 2 ^ (c + 1)) := by
  have := h.out; show _ = _; rw [this, Nat.pow_succ]
theorem l3_b (c d m : Nat) (hm : m ≤ 14) (hc : c ≤ m) (h : Hid (d = 2 ^ c)) : 0 < d ∧ d ≤ 16384 := by
  have h1 : 2 ^ c ≤ 2 ^ 14 := Nat.pow_le_pow_right (by decide) (by omega)
  have h2 := Nat.two_pow_pos c
  rw [h.out]; omega

set_option maxRecDepth 100000 in
set_option maxHeartbeats 1000000 in
theorem refMul_nat (A B : Nat) (hA : A < 256) (hB : B < 256) (w : World) :
    Calls Try.prog 16 #[.int .u8 (A : Int), .int .u8 (B : Int)] w fun e w' => e = .returned (.int .u8 (Gf.rm A B : Nat)) ∧ w' = w := by
  go_enter Try.func16, Try.ntmps16
  go_wp2
  go_loop [1, 5, 6, 7] (fun b p x i => ∃ k y q z : Nat, k ≤ 8 ∧ y < 256 ∧ q < 65536 ∧ z < 65536 ∧ Hid (y = B / 2 ^ k) ∧ Hid (q = Gf.mp A B k) ∧ Hid (z = A * 2 ^ k) ∧ i = .int .i64 k ∧ b = .int .u8 y ∧ p = .int .i64 q ∧ x = .int .i64 z) (fun _ _ _ i => 8 - (intOf i).toNat)
  case atStart => exact ⟨0, B, 0, A, by omega, hB, by omega, by omega, by simp [Hid], rfl, by simp [Hid], rfl, rfl, rfl, rfl⟩
  case round =>
    obtain ⟨k, y, q, z, hk, hy, hq, hz, Hy, Hq, Hz, rfl, rfl, rfl, rfl⟩ := hrel
    by_cases hlt : k < 8
    · have hb := and1_eq y hy
      have Hy' := l1_y B k y Hy
      have Hz' := l1_z A k z Hz
      have hz' := l1_zb A (k + 1) _ hA (by omega) Hz'
      by_cases hbit : y % 2 = 1
      · have hb1 : (bits .and .u8 (y : Int) 1 == 1) = true := by rw [hb]; simp [hbit]
        have Hq' := l1_q1 A B k y q z Hy Hq Hz hbit
        have hq' := l1_qb A B (k + 1) _ hA (by omega) Hq'
        have HX : Hid (bits .xor .i64 (q : Int) (z : Int) = ((q ^^^ z : Nat) : Int)) := i64_xor_nat q z hq hz
        clear hb
        go_wp2
        go_round
        case rel => exact ⟨k + 1, y / 2, q ^^^ z, z * 2, by omega, by omega, hq', hz', Hy', Hq', Hz', by go_num, by go_num, by rw [HX.out], by go_num⟩
        case measure => simp [intOf]; omega
      · have hb1 : (bits .and .u8 (y : Int) 1 == 1) = false := by rw [hb]; simp [hbit]
        have Hq' := l1_q0 A B k y q Hy Hq hbit
        clear hb
        go_wp2
        go_round
        case rel => exact ⟨k + 1, y / 2, q, z * 2, by omega, by omega, hq, hz', Hy', Hq', Hz', by go_num, by go_num, rfl, by go_num⟩
        case measure => simp [intOf]; omega
    · have hk8 : k = 8 := by omega
      subst hk8
      clear Hy Hz hlt
      obtain ⟨P, hP⟩ : ∃ P, P = Gf.mp A B 8 := ⟨_, rfl⟩
      have hPb : P < 65536 := by rw [hP, ← Hq.out]; exact hq
      have HP : Hid (P = Gf.mp A B 8) := hP
      have Hq0 : Hid (q = Gf.mr P (14 - 14)) := by show q = P; rw [hP]; exact Hq.out
      clear hP Hq
      go_wp2
      go_loop [5, 8] (fun p i => ∃ m q : Nat, 7 ≤ m ∧ m ≤ 14 ∧ q < 65536 ∧ Hid (q = Gf.mr P (14 - m)) ∧ i = .int .i64 m ∧ p = .int .i64 q) (fun _ i => (intOf i).toNat)
      case atStart => exact ⟨14, q, by omega, by omega, hq, Hq0, rfl, rfl⟩
      case round =>
        clear Hq0 hq
        obtain ⟨m, q, hm1, hm2, hq, Hq, rfl, rfl⟩ := hrel
        by_cases hlt : 8 ≤ m
        · go_wp2
          go_loop [9, 10] (fun bit c => ∃ e d : Nat, e ≤ m ∧ 0 < d ∧ d ≤ 16384 ∧ Hid (d = 2 ^ e) ∧ bit = .int .i64 d ∧ c = .int .i64 e) (fun _ c => m - (intOf c).toNat)
          case atStart => exact ⟨0, 1, by omega, by omega, by omega, rfl, rfl, rfl⟩
          case round =>
            obtain ⟨e, d, he, hd0, hd1, Hd, rfl, rfl⟩ := hrel
            by_cases hem : e < m
            · have Hd' := l3_d e d Hd
              have hd' := l3_b (e + 1) (d * 2) m hm2 (by omega) Hd'
              go_wp2
              go_round
              case rel => exact ⟨e + 1, d * 2, by omega, by omega, by omega, Hd', by go_num, by go_num⟩
              case measure => simp [intOf]; omega
            · have hee : e = m := by omega
              subst hee
              clear hem
              have hqd0 : (0 : Int) ≤ (q : Int) / (d : Int) := Int.ediv_nonneg (by omega) (by omega)
              have hqd1 : (q : Int) / (d : Int) < 65536 := by
                have h1 : q / d ≤ q := Nat.div_le_self q d
                have h2 : ((q / d : Nat) : Int) = (q : Int) / (d : Int) := Int.natCast_ediv q d
                omega
              have HQ : Hid (((q / d : Nat) : Int) = (q : Int) / (d : Int)) := Int.natCast_ediv q d
              by_cases hbit : q / d % 2 = 1
              · have Hq' := l2_1 P e q d hlt hm2 Hq Hd hbit
                have hq' := l2_qb P _ _ hPb Hq'
                have hx : 285 * d / 256 < 65536 := by omega
                have HX : Hid (bits .xor .i64 (q : Int) ((285 * d / 256 : Nat) : Int) = ((q ^^^ (285 * d / 256) : Nat) : Int)) := i64_xor_nat q _ hq hx
                have hb1 : ((q : Int) / (d : Int) % 2 == 1) = true := by have h1 := HQ.out; rw [beq_iff_eq, ← h1]; omega
                go_wp2
                go_round
                case rel => exact ⟨e - 1, q ^^^ (285 * d / 256), by omega, by omega, hq', Hq', by go_num, by rw [← HX.out]; go_num⟩
                case measure => simp [intOf]; omega
              · have Hq' := l2_0 P e q d hlt hm2 Hq Hd hbit
                have hb1 : ((q : Int) / (d : Int) % 2 == 1) = false := by have h1 := HQ.out; rw [beq_eq_false_iff_ne, ← h1]; omega
                go_wp2
                go_round
                case rel => exact ⟨e - 1, q, by omega, by omega, hq, Hq', by go_num, rfl⟩
                case measure => simp [intOf]; omega
        · have hm7 : m = 7 := by omega
          subst hm7
          go_wp2
          go_ret
          refine ⟨ret_int ?_, rfl⟩
          unfold Gf.rm
          rw [← HP.out, ← Hq.out]
          omega

/-- the document's product is the table's -/
theorem refMul_any (x y : Int) (hx0 : 0 ≤ x) (hx1 : x < 256) (hy0 : 0 ≤ y) (hy1 : y < 256) (w : World) :
    Calls Try.prog 16 #[.int .u8 x, .int .u8 y] w fun e w' => e = .returned (.int .u8 (gI x y)) ∧ w' = w := by
  obtain ⟨A, rfl⟩ := Int.eq_ofNat_of_zero_le hx0
  obtain ⟨B, rfl⟩ := Int.eq_ofNat_of_zero_le hy0
  refine (refMul_nat A B (by omega) (by omega) w).mono ?_
  rintro e w' ⟨rfl, rfl⟩
  refine ⟨ret_int ?_, rfl⟩
  rw [← Gf.rm_gI _ _ hx0 hx1 hy0 hy1]; simp


end Go.Proofs.Ytmkjdpokcfeieaa
