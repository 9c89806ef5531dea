/-
  The walks of package geom, the leaves: powers of 2, indices, places, an index's lowest bits; the document's.
-/
import Derived.Test.YtcpjmfemgdgplaaGeMath
import Derived.Test.YtcpjmfemgdgplaaBitW1
import Derived.Test.YtcpjmfemgdgplaaRoundM
import Derived.Laws.BitsAllLaws
import Derived.Deep.RegionHeld3
import Derived.Deep.DeepCutAuto
namespace Go.Proofs.Ytcpjmfemgdgplaa
open Go.RowKit
open Bm (wt wtK)
open Ge (pw rt hd ix)

/-- the lowest bits of a number -/
theorem i64_mask (i : Int) (k M : Nat) (hk : k < 63) (hM : 2 ^ k = M) : bits .and .i64 i ((M - 1 : Nat) : Int) = i % (M : Int) := by
  have hM1 : M ≤ 9223372036854775808 := by rw [← hM]; exact Nat.le_trans (Nat.pow_le_pow_right (by omega) (show k ≤ 63 by omega)) (by decide)
  have hM0 : 0 < M := by rw [← hM]; exact Nat.pow_pos (by omega)
  show IntKind.i64.wrap ((BitVec.ofInt 64 i &&& BitVec.ofInt 64 ((M - 1 : Nat) : Int)).toNat : Int) = _
  rw [BitVec.toNat_and, ofInt_u64 (M - 1) (by omega)]
  rw [← hM, Nat.and_two_pow_sub_one_eq_mod, hM]
  have e1 : ((BitVec.ofInt 64 i).toNat : Int) = i % 18446744073709551616 := by rw [BitVec.toNat_ofInt]; simp; omega
  have e2 : (((BitVec.ofInt 64 i).toNat % M : Nat) : Int) = i % (M : Int) := by
    rw [Int.natCast_emod, e1]
    refine Int.emod_emod_of_dvd _ ?_
    rw [← hM]
    exact Int.ofNat_dvd.2 (show 2 ^ k ∣ 2 ^ 64 from Nat.pow_dvd_pow 2 (by omega))
  have b0 : 0 ≤ i % (M : Int) := Int.emod_nonneg _ (by omega)
  have b1 : i % (M : Int) < M := Int.emod_lt_of_pos _ (by omega)
  rw [e2]
  simp [IntKind.wrap, IntKind.bits, IntKind.signed]
  omega
/-- numbers that share no bit -/
theorem i64_join (x y : Int) (k : Nat) (hx : 0 ≤ x) (hx1 : x < 4611686018427387904) (hd : x % ((2 ^ k : Nat) : Int) = 0) (hy : 0 ≤ y) (hy1 : y < ((2 ^ k : Nat) : Int)) (hk : k < 62) : bits .or .i64 x y = x + y := by
  obtain ⟨a, rfl⟩ := Int.eq_ofNat_of_zero_le hx
  obtain ⟨b, rfl⟩ := Int.eq_ofNat_of_zero_le hy
  have h2 : 2 ^ k ≤ 4611686018427387904 := Nat.le_trans (Nat.pow_le_pow_right (by omega) (show k ≤ 62 by omega)) (by decide)
  have hb : b < 2 ^ k := by omega
  have ha : a % 2 ^ k = 0 := by rw [← Int.natCast_emod] at hd; omega
  show IntKind.i64.wrap ((BitVec.ofInt 64 (a : Int) ||| BitVec.ofInt 64 (b : Int)).toNat : Int) = _
  rw [BitVec.toNat_or, ofInt_u64 a (by omega), ofInt_u64 b (by omega), nat_join k a b ha hb]
  simp [IntKind.wrap, IntKind.bits, IntKind.signed]
  omega

theorem isPower_yes (k m : Nat) (t : Nat) (hp : 0 < k) (hq : k ≤ m) (hm : m ≤ 1024) (hc : Hid (∀ w, Calls Try.prog 81 #[.int .u64 (k : Int)] w fun e w' => e = .returned (.int .i64 (t : Int)) ∧ w' = w)) (w : World) :
    Calls Try.prog 64 #[.int .i64 (k : Int), .int .i64 (m : Int)] w fun e w' => e = .returned (.bool ((t : Int) == 1)) ∧ w' = w := by
  go_enter Try.func64, Try.ntmps64
  go_wp2_with (go_at_call 81; refine (hc.out _).mono ?_; rintro e w' ⟨rfl, rfl⟩)
  go_ret
  exact ⟨rfl, rfl⟩
theorem isPower_any (n m : Int) (hm0 : 0 ≤ m) (hm : m ≤ 1024) (w : World) :
    Calls Try.prog 64 #[.int .i64 n, .int .i64 m] w fun e w' => e = .returned (.bool (pw n m)) ∧ w' = w := by
  by_cases hp : 0 < n
  · by_cases hq : n ≤ m
    · obtain ⟨k, rfl⟩ := Int.eq_ofNat_of_zero_le (show 0 ≤ n by omega)
      obtain ⟨j, rfl⟩ := Int.eq_ofNat_of_zero_le hm0
      have hk : k < 1025 := by omega
      have := isPower_yes k j (wt k) (by omega) (by omega) (by omega) (fun w => weight64_any k (by omega) w) w
      rw [show (((wt k : Nat) : Int) == 1) = pw (k : Int) (j : Int) from by
        rw [← Ge.isp_pw k j (by omega), ← Ge.isp_wt k hk, Bool.eq_iff_iff, beq_iff_eq, decide_eq_true_eq]; omega] at this
      exact this
    · rw [show pw n m = false from Ge.pw_high (by omega)]
      go_enter Try.func64, Try.ntmps64
      go_wp2
      go_ret
      exact ⟨rfl, rfl⟩
  · rw [show pw n m = false from Ge.pw_low (by omega)]
    go_enter Try.func64, Try.ntmps64
    go_wp2
    go_ret
    exact ⟨rfl, rfl⟩

theorem isBelow_any (n m : Int) (w : World) :
    Calls Try.prog 75 #[.int .i64 n, .int .i64 m] w fun e w' => e = .returned (.bool (decide (0 ≤ n ∧ n < m))) ∧ w' = w := by
  by_cases hp : 0 ≤ n
  · by_cases hq : n < m
    · go_enter Try.func75, Try.ntmps75
      go_wp2
      go_ret
      exact ⟨by simp [hp, hq], rfl⟩
    · go_enter Try.func75, Try.ntmps75
      go_wp2
      go_ret
      exact ⟨by simp [hq], rfl⟩
  · go_enter Try.func75, Try.ntmps75
    go_wp2
    go_ret
    refine ⟨?_, rfl⟩
    rw [show (decide (0 ≤ n) && decide (n < m)) = false from by rw [decide_eq_false (by omega), Bool.false_and]]
    rfl

theorem allRanks_any (r s b o c : Int) (h0 : 0 ≤ r + s) (h1 : r + s < 1000) (w : World) :
    Calls Try.prog 65 #[.agg #[.int .i64 r, .int .i64 s, .int .i64 b, .int .i64 o, .int .i64 c]] w fun e w' => e = .returned (.int .i64 (r + s)) ∧ Below w.heap.size w w' := by
  go_enter Try.func65, Try.ntmps65
  go_wp2
  go_ret
  exact ⟨rfl, (Below.refl _ w).alloc (Nat.le_refl _) _⟩

theorem refIndex_any (p q u v : Int) (hp : 0 ≤ p ∧ p < 8) (hq : 0 ≤ q ∧ q < 16) (hu : 0 ≤ u ∧ u < 1024) (hv : 0 ≤ v ∧ v < 64) (w : World) :
    Calls Try.prog 67 #[.agg #[.int .i64 p, .int .i64 q, .int .i64 u, .int .i64 v]] w fun e w' => e = .returned (.int .i64 (ix p q u v)) ∧ Below w.heap.size w w' := by
  obtain ⟨hp0, hp1⟩ := hp
  obtain ⟨hq0, hq1⟩ := hq
  obtain ⟨hu0, hu1⟩ := hu
  obtain ⟨hv0, hv1⟩ := hv
  go_enter Try.func67, Try.ntmps67
  go_wp2
  go_ret
  exact ⟨rfl, (Below.refl _ w).alloc (Nat.le_refl _) _⟩
theorem refPlace_any (i : Int) (h0 : 0 ≤ i) (h1 : i < 9223372036854775808) (w : World) :
    Calls Try.prog 44 #[.int .i64 i] w fun e w' => e = .returned (.agg #[.int .i64 (i / 1048576), .int .i64 (i / 65536 % 16), .int .i64 (i / 64 % 1024), .int .i64 (i % 64)]) ∧ Below w.heap.size w w' := by
  have q0 : 0 ≤ i / 65536 := by omega
  have q1 : i / 65536 < 9223372036854775808 := by omega
  have q2 : 0 ≤ i / 64 := by omega
  have q3 : i / 64 < 9223372036854775808 := by omega
  go_enter Try.func44, Try.ntmps44
  go_wp2
  refine bodyPost_ret (results_cell_row rfl _ _ w.heap.size _ _ (0, 0) _ rfl (World.alloc_heap_new w _) Try.underlying49 rfl (by kernel_rfl)) rfl ⟨?_, (Below.refl _ w).alloc (Nat.le_refl _) _⟩
  rfl
theorem placeOf_any (i : Int) (w : World) :
    Calls Try.prog 82 #[.int .i64 i] w fun e w' => e = .returned (.agg #[.int .i64 (i / 1048576), .int .i64 (i / 65536 % 16), .int .i64 (i / 64 % 1024), .int .i64 (i % 64)]) ∧ Below w.heap.size w w' := by
  have m1 : bits .and .i64 (i / 65536) 15 = i / 65536 % 16 := i64_mask (i / 65536) 4 16 (by omega) (by decide)
  have m2 : bits .and .i64 (i / 64) 1023 = i / 64 % 1024 := i64_mask (i / 64) 10 1024 (by omega) (by decide)
  have m3 : bits .and .i64 i 63 = i % 64 := i64_mask i 6 64 (by omega) (by decide)
  go_enter Try.func82, Try.ntmps82
  go_wp2
  refine bodyPost_ret (results_cell_row rfl _ _ w.heap.size _ _ (0, 0) _ rfl (World.alloc_heap_new w _) Try.underlying36 rfl (by kernel_rfl)) rfl ⟨?_, (Below.refl _ w).alloc (Nat.le_refl _) _⟩
  first | rfl | rw [m1, m2, m3]
theorem index7_any (p q u v : Int) (hp : 0 ≤ p ∧ p < 8) (hq : 0 ≤ q ∧ q < 16) (hu : 0 ≤ u ∧ u < 1024) (hv : 0 ≤ v ∧ v < 64) (w : World) :
    Calls Try.prog 49 #[.agg #[.int .i64 p, .int .i64 q, .int .i64 u, .int .i64 v]] w fun e w' => e = .returned (.int .i64 (ix p q u v)) ∧ Below w.heap.size w w' := by
  obtain ⟨hp0, hp1⟩ := hp
  obtain ⟨hq0, hq1⟩ := hq
  obtain ⟨hu0, hu1⟩ := hu
  obtain ⟨hv0, hv1⟩ := hv
  have m1 : bits .or .i64 (p * 1048576) (q * 65536) = p * 1048576 + q * 65536 := i64_join _ _ 20 (by omega) (by omega) (by first | (simp; done) | (simp; omega)) (by omega) (by simp; omega) (by omega)
  have m2 : bits .or .i64 (p * 1048576 + q * 65536) (u * 64) = p * 1048576 + q * 65536 + u * 64 := i64_join _ _ 16 (by omega) (by omega) (by first | (simp; done) | (simp; omega)) (by omega) (by simp; omega) (by omega)
  have m3 : bits .or .i64 (p * 1048576 + q * 65536 + u * 64) v = p * 1048576 + q * 65536 + u * 64 + v := i64_join _ _ 6 (by omega) (by omega) (by first | (simp; done) | (simp; omega)) (by omega) (by simp; omega) (by omega)
  have e : Hid (p * 1048576 + q * 65536 + u * 64 + v = ix p q u v) := by show _ = _; unfold ix; omega
  go_enter Try.func49, Try.ntmps49
  go_wp2_with (first | simp only [m1] | simp only [m2] | simp only [m3])
  go_ret
  exact ⟨by rw [← e.out]; rfl, (Below.refl _ w).alloc (Nat.le_refl _) _⟩

set_option maxHeartbeats 1000000 in
theorem refPower_any (n m : Int) (h0 : -9223372036854775808 ≤ n) (h1 : n < 9223372036854775808) (hm0 : 0 ≤ m) (hm : m ≤ 1024) (w : World) :
    Calls Try.prog 36 #[.int .i64 n, .int .i64 m] w fun e w' => e = .returned (.bool (pw n m)) ∧ w' = w := by
  obtain ⟨z, Hz⟩ : ∃ z, Hid (pw n m = z) := ⟨_, rfl⟩
  rw [Hz.out]
  go_enter Try.func36, Try.ntmps36
  go_wp2
  go_loop [5] (fun a => ∃ p : Int, 1 ≤ p ∧ p ≤ 2048 ∧ a = .int .i64 p ∧ Hid (p = 1 ∨ p = 2 ∨ p = 4 ∨ p = 8 ∨ p = 16 ∨ p = 32 ∨ p = 64 ∨ p = 128 ∨ p = 256 ∨ p = 512 ∨ p = 1024 ∨ p = 2048) ∧ Hid (n < p → pw n m = false)) (fun a => 4096 - (intOf a).toNat)
  case atStart => exact ⟨1, by omega, by omega, rfl, .inl rfl, fun h => Ge.pw_low (by omega)⟩
  case round =>
    obtain ⟨p, hp1, hp2, rfl, Hp, Hn⟩ := hrel
    by_cases hle : p ≤ m
    · by_cases hn : n = p
      · have e : pw n m = true := by
          have := Hp.out
          unfold pw
          rw [decide_eq_true (by omega), decide_eq_true (by omega), Bool.and_true]
        obtain rfl : z = true := by rw [← Hz.out, e]
        clear e Hz Hn
        subst hn
        go_wp2
        go_ret
        exact ⟨rfl, rfl⟩
      · have HN : Hid (n < p * 2 → pw n m = false) := fun h => by
          by_cases h2 : n < p
          · exact Hn.out h2
          · have := Hp.out
            unfold pw
            rw [decide_eq_false (by omega), Bool.false_and]
        have hp3 : p ≤ 1024 := by omega
        go_wp2
        go_round
        case rel => exact ⟨p * 2, by omega, by omega, by go_num, by have := Hp.out; show _ ∨ _; omega, HN⟩
        case measure => simp [intOf]; omega
    · have e : pw n m = false := by
        by_cases h2 : n < p
        · exact Hn.out h2
        · exact Ge.pw_high (by omega)
      obtain rfl : z = false := by rw [← Hz.out, e]
      clear e Hz Hn
      go_wp2
      go_ret
      exact ⟨rfl, rfl⟩
end Go.Proofs.Ytcpjmfemgdgplaa
