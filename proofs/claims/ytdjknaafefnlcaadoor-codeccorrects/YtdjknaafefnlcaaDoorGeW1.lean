/-
  The walks of package geom, the leaves: powers of 2, indices, places, an index's lowest bits; the document's.
-/
import Derived.Test.YtdjknaafefnlcaaDoorGeMath
import Derived.Test.YtdjknaafefnlcaaDoorBitW1
import Derived.Test.YtdjknaafefnlcaaDoorRoundM
import Derived.Laws.BitsAllLaws
import Derived.Deep.RegionHeld3
import Derived.Deep.DeepCutAuto
namespace Go.Proofs.YtdjknaafefnlcaaDoor
open Go.RowKit
open Bm (wt wtK)
open Ge (pw rt hd ix)

/-- the lowest bits of a number -/
theorem i64_mask (i : Int) (k M : Nat) (hk : k < 63) (hM : 2 ^ k = M) : bits .and .i64 i ((M - 1 : Nat) : Int) = i % (M : Int) := by
  have hM1 : M ≤ 9223372036854775808 := by rw [← hM]; exact Nat.le_trans (Nat.pow_le_pow_right (by omega) (show k ≤ 63 by omega)) (by decide)
  have hM0 : 0 < M := by rw [← hM]; exact Nat.pow_pos (by omega)
  show IntKind.i64.wrap ((BitVec.ofInt 64 i &&& BitVec.ofInt 64 ((M - 1 : Nat) : Int)).toNat : Int) = _
  rw [BitVec.toNat_and, ofInt_u64 (M - 1) (by omega)]
  rw [← hM, Nat.and_two_pow_sub_one_eq_mod, hM]
  have e1 : ((BitVec.ofInt 64 i).toNat : Int) = i % 18446744073709551616 := by rw [BitVec.toNat_ofInt]; simp; omega
  have e2 : (((BitVec.ofInt 64 i).toNat % M : Nat) : Int) = i % (M : Int) := by
    rw [Int.natCast_emod, e1]
    refine Int.emod_emod_of_dvd _ ?_
    rw [← hM]
    exact Int.ofNat_dvd.2 (show 2 ^ k ∣ 2 ^ 64 from Nat.pow_dvd_pow 2 (by omega))
  have b0 : 0 ≤ i % (M : Int) := Int.emod_nonneg _ (by omega)
  have b1 : i % (M : Int) < M := Int.emod_lt_of_pos _ (by omega)
  rw [e2]
  simp [IntKind.wrap, IntKind.bits, IntKind.signed]
  omega
/-- numbers that share no bit -/
theorem i64_join (x y : Int) (k : Nat) (hx : 0 ≤ x) (hx1 : x < 4611686018427387904) (hd : x % ((2 ^ k : Nat) : Int) = 0) (hy : 0 ≤ y) (hy1 : y < ((2 ^ k : Nat) : Int)) (hk : k < 62) : bits .or .i64 x y = x + y := by
  obtain ⟨a, rfl⟩ := Int.eq_ofNat_of_zero_le hx
  obtain ⟨b, rfl⟩ := Int.eq_ofNat_of_zero_le hy
  have h2 : 2 ^ k ≤ 4611686018427387904 := Nat.le_trans (Nat.pow_le_pow_right (by omega) (show k ≤ 62 by omega)) (by decide)
  have hb : b < 2 ^ k := by omega
  have ha : a % 2 ^ k = 0 := by rw [← Int.natCast_emod] at hd; omega
  show IntKind.i64.wrap ((BitVec.ofInt 64 (a : Int) ||| BitVec.ofInt 64 (b : Int)).toNat : Int) = _
  rw [BitVec.toNat_or, ofInt_u64 a (by omega), ofInt_u64 b (by omega), nat_join k a b ha hb]
  simp [IntKind.wrap, IntKind.bits, IntKind.signed]
  omega

theorem lowest_any (i : Int) (w : World) :
    Calls Tryd.prog 64 #[.int .i64 i] w fun e w' => e = .returned (.int .u32 (i % 8388608)) ∧ w' = w := by
  have hm : bits .and .i64 i 8388607 = i % 8388608 := i64_mask i 23 8388608 (by omega) (by decide)
  have b0 : 0 ≤ i % 8388608 := by omega
  have b1 : i % 8388608 < 8388608 := by omega
  have Hm : Hid (i % 8388608 % 4294967296 = i % 8388608) := by show _ = _; omega
  go_enter Tryd.func64, Tryd.ntmps64
  go_wp2_with (simp only [hm])
  go_ret
  exact ⟨rfl, rfl⟩
theorem parity_any (i : Int) (w : World) : ∃ k : Nat, (k : Int) = i % 8388608 ∧ k < 8388608 ∧
    Calls Tryd.prog 31 #[.int .i64 i] w fun e w' => e = .returned (.int .i64 ((wt k % 2 : Nat) : Int)) ∧ w' = w := by
  have b0 : 0 ≤ i % 8388608 := by omega
  have b1 : i % 8388608 < 8388608 := by omega
  obtain ⟨k, hk⟩ := Int.eq_ofNat_of_zero_le b0
  have hk1 : k < 4294967296 := by omega
  have hl : Hid (∀ w, Calls Tryd.prog 64 #[.int .i64 i] w fun e w' => e = .returned (.int .u32 (k : Int)) ∧ w' = w) := fun w => by rw [← hk]; exact lowest_any i w
  refine ⟨k, hk.symm, by omega, ?_⟩
  clear b0 b1 hk
  obtain ⟨t, Ht⟩ : ∃ t, Hid (wt k % 2 = t) := ⟨_, rfl⟩
  rw [Ht.out]
  have hp : Hid (∀ w, Calls Tryd.prog 63 #[.int .u32 (k : Int)] w fun e w' => e = .returned (.int .i64 (t : Int)) ∧ w' = w) := fun w => by rw [← Ht.out]; exact parity32_any k hk1 w
  go_enter Tryd.func31, Tryd.ntmps31
  go_wp2_with (first | (go_at_call 64; refine (hl.out _).mono ?_; rintro e w' ⟨rfl, rfl⟩) | (go_at_call 63; refine (hp.out _).mono ?_; rintro e w' ⟨rfl, rfl⟩))
  go_ret
  exact ⟨rfl, rfl⟩
theorem bytes_any (i : Int) (w : World) :
    Calls Tryd.prog 68 #[.int .i64 i] w fun e w' => e = .returned (.agg #[.int .u8 (i % 8388608 % 256), .int .u8 (i % 8388608 / 256 % 256), .int .u8 (i % 8388608 / 65536 % 256)]) ∧ Below w.heap.size w w' := by
  have b0 : 0 ≤ i % 8388608 := by omega
  have b1 : i % 8388608 < 8388608 := by omega
  obtain ⟨k, Hk⟩ : ∃ k, Hid (i % 8388608 = k) := ⟨_, rfl⟩
  have hl : Hid (∀ w, Calls Tryd.prog 64 #[.int .i64 i] w fun e w' => e = .returned (.int .u32 k) ∧ w' = w) := fun w => by rw [← Hk.out]; exact lowest_any i w
  rw [Hk.out] at b0 b1 ⊢
  go_enter Tryd.func68, Tryd.ntmps68
  go_wp2_with (go_at_call 64; refine (hl.out _).mono ?_; rintro e w' ⟨rfl, rfl⟩)
  refine bodyPost_ret (results_cell_row rfl _ _ w.heap.size _ _ (0, 0) _ rfl (World.alloc_heap_new w _) Tryd.underlying37 rfl (by kernel_rfl)) rfl ⟨?_, (Below.refl _ w).alloc (Nat.le_refl _) _⟩
  rw [show k / 65536 % 256 = k / 65536 from by omega]

end Go.Proofs.YtdjknaafefnlcaaDoor
