/-
  The document's syndrome; one of the 74 bits turned.
-/
import Derived.Test.YtdjknaafefnlcaaDoorHsW2
import Derived.Laws.Bits128
namespace Go.Proofs.YtdjknaafefnlcaaDoor
open Go.RowKit Go.Shelf
open Bm (wt wtK cntW)
open Hm (col onesOf nOf idx kd pl xs ap syn)
attribute [local go_sem] Oper.semAt_some

theorem i64_and1 (n : Int) : bits .and .i64 n 1 = n % 2 := by
  have h1 : (BitVec.ofInt 64 1).toNat = 2 ^ 1 - 1 := by decide
  have key : (BitVec.ofInt 64 n &&& BitVec.ofInt 64 1).toNat = (n % ((2 ^ 64 : Nat) : Int)).toNat % 2 ^ 1 := by
    rw [BitVec.toNat_and, BitVec.toNat_ofInt, h1, Nat.and_two_pow_sub_one_eq_mod]
  show IntKind.i64.wrap ((BitVec.ofInt 64 n &&& BitVec.ofInt 64 1).toNat : Nat) = n % 2
  rw [key, IntKind.wrap_i64]
  omega
theorem i64_xor_low (x y : Int) : bits .xor .i64 x y % 2 = (x + y) % 2 := by
  have key : (BitVec.ofInt 64 x ^^^ BitVec.ofInt 64 y).toNat % 2 = ((x % ((2 ^ 64 : Nat) : Int)).toNat + (y % ((2 ^ 64 : Nat) : Int)).toNat) % 2 := by
    rw [BitVec.toNat_xor, BitVec.toNat_ofInt, BitVec.toNat_ofInt]
    have h := Nat.xor_mod_two_pow (a := (x % ((2 ^ 64 : Nat) : Int)).toNat) (b := (y % ((2 ^ 64 : Nat) : Int)).toNat) (n := 1)
    rw [Nat.pow_one] at h
    rw [h]
    rcases Nat.mod_two_eq_zero_or_one (x % ((2 ^ 64 : Nat) : Int)).toNat with h1 | h1 <;> rcases Nat.mod_two_eq_zero_or_one (y % ((2 ^ 64 : Nat) : Int)).toNat with h2 | h2 <;> rw [h1, h2] <;> simp <;> omega
  show IntKind.i64.wrap ((BitVec.ofInt 64 x ^^^ BitVec.ofInt 64 y).toNat : Nat) % 2 = (x + y) % 2
  generalize (BitVec.ofInt 64 x ^^^ BitVec.ofInt 64 y).toNat = z at key
  rw [IntKind.wrap_i64]
  omega

/-- an address's or a poison's bit, as the program asks it -/
theorem low_ask (a : Int) : (bits .and .i64 a 1 == 1) = decide (a % 2 = 1) := by
  rw [i64_and1]; simp [BEq.beq]

/-! ### one bit turned -/
theorem results_tmp4 {fn : Func} {t u v x : Tmp} (h : fn.results = #[.tmp t, .tmp u, .tmp v, .tmp x]) (tmps : Array Value) (P : Program) (w : World) :
    (results fn tmps).run P w = .ok (.tuple #[tmps.getD t undef, tmps.getD u undef, tmps.getD v undef, tmps.getD x undef]) w := by
  simp [results, h]
theorem flip64 (d i : Nat) (hd : d < 18446744073709551616) (hi : i < 64) : bits .xor .u64 (d : Int) (IntKind.u64.wrap (2 ^ i)) = ((d ^^^ 2 ^ i : Nat) : Int) := by
  have h : 2 ^ i < 18446744073709551616 := Nat.pow_lt_pow_right (a := 2) (by decide) hi
  have e : IntKind.u64.wrap ((2 : Int) ^ i) = ((2 ^ i : Nat) : Int) := by
    have : ((2 : Int) ^ i) = ((2 ^ i : Nat) : Int) := by simp
    rw [this, IntKind.wrap_u64]
    generalize 2 ^ i = q at h
    omega
  rw [e, u64_xor_nat d (2 ^ i) hd (by omega)]
theorem flip8 (k i : Nat) (hk : k < 256) (hi : i < 8) : bits .xor .u8 (k : Int) (IntKind.u8.wrap (2 ^ i)) = ((k ^^^ 2 ^ i : Nat) : Int) := by
  have h : 2 ^ i < 256 := Nat.pow_lt_pow_right (a := 2) (by decide) hi
  have e : IntKind.u8.wrap ((2 : Int) ^ i) = ((2 ^ i : Nat) : Int) := by
    have : ((2 : Int) ^ i) = ((2 ^ i : Nat) : Int) := by simp
    rw [this, IntKind.wrap_u8]
    generalize 2 ^ i = q at h
    omega
  rw [e, u8_xor_nat k (2 ^ i) hk (by omega)]
theorem flip_lt (d i : Nat) (hd : d < 18446744073709551616) (hi : i < 64) : d ^^^ 2 ^ i < 18446744073709551616 :=
  Nat.xor_lt_two_pow (n := 64) hd (Nat.pow_lt_pow_right (by decide) hi)
theorem flip1 (a : Int) (h : a = 0 ∨ a = 1) : bits .xor .i64 a 1 = 1 - a := by rcases h with rfl | rfl <;> decide
end Go.Proofs.YtdjknaafefnlcaaDoor
