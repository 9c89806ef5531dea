/-
  Layer 10's mathematics, mode 1: two words of 72 bits that are unlike in some bits; what a syndrome tells of them.
-/
import Derived.Test.YtdjknaafefnlcaaDoorHsW5
import Derived.Test.YtdjknaafefnlcaaDoorLnMath
import Derived.Test.YtdjknaafefnlcaaDoorRwMath
namespace Go.Proofs.YtdjknaafefnlcaaDoor.Co
open Go Go.RowKit
open Bm (wt wtK)
open Hm (col xs ap syn kd pl)
open Ln (val wrd)

/-! ### which bits are set -/
/-- the bits of the lowest n that are set, the highest first -/
def bl (E : Nat) : Nat → List Nat
  | 0 => []
  | n + 1 => if E / 2 ^ n % 2 = 1 then n :: bl E n else bl E n
theorem bl_yes (E n : Nat) (h : E / 2 ^ n % 2 = 1) : bl E (n + 1) = n :: bl E n := by
  show (if _ then _ else _) = _
  rw [if_pos h]
theorem bl_no (E n : Nat) (h : ¬ E / 2 ^ n % 2 = 1) : bl E (n + 1) = bl E n := by
  show (if _ then _ else _) = _
  rw [if_neg h]
theorem bl_len (E n : Nat) : (bl E n).length = wtK n E := by
  induction n with
  | zero => rfl
  | succ n ih =>
    rw [Bm.wtK_succ_hi]
    by_cases h : E / 2 ^ n % 2 = 1
    · rw [bl_yes E n h, List.length_cons, ih, h]
    · rw [bl_no E n h, ih]; omega
theorem bl_lt (E n : Nat) : ∀ i ∈ bl E n, i < n ∧ E / 2 ^ i % 2 = 1 := by
  induction n with
  | zero =>
    intro i hi
    cases hi
  | succ n ih =>
    intro i hi
    by_cases h : E / 2 ^ n % 2 = 1
    · rw [bl_yes E n h] at hi
      rcases List.mem_cons.1 hi with rfl | hi
      · exact ⟨by omega, h⟩
      · exact ⟨by have := (ih i hi).1; omega, (ih i hi).2⟩
    · rw [bl_no E n h] at hi
      exact ⟨by have := (ih i hi).1; omega, (ih i hi).2⟩
theorem bl_nodup (E n : Nat) : (bl E n).Nodup := by
  induction n with
  | zero => exact List.nodup_nil
  | succ n ih =>
    by_cases h : E / 2 ^ n % 2 = 1
    · rw [bl_yes E n h]
      exact List.nodup_cons.2 ⟨fun hm => by have := (bl_lt E n n hm).1; omega, ih⟩
    · rw [bl_no E n h]; exact ih
/-- the exclusive or of columns -/
def cx : List Nat → Nat
  | [] => 0
  | i :: l => cx l ^^^ col i
theorem bl_cx (E n : Nat) : xs E n = cx (bl E n) := by
  induction n with
  | zero => rfl
  | succ n ih =>
    by_cases h : E / 2 ^ n % 2 = 1
    · rw [Hm.xs_yes E n h, bl_yes E n h, ih]; rfl
    · rw [Hm.xs_no E n h, bl_no E n h, ih]
/-- up to three bits -/
theorem bits_ways (E n : Nat) : (wtK n E = 0 ∧ xs E n = 0) ∨ (wtK n E = 1 ∧ ∃ i, i < n ∧ E / 2 ^ i % 2 = 1 ∧ xs E n = col i) ∨
    (wtK n E = 2 ∧ ∃ i j, i < n ∧ j < n ∧ i ≠ j ∧ xs E n = col i ^^^ col j) ∨
    (wtK n E = 3 ∧ ∃ i j l, i < n ∧ j < n ∧ l < n ∧ i ≠ j ∧ xs E n = (col i ^^^ col j) ^^^ col l) ∨ 4 ≤ wtK n E := by
  have hl := bl_len E n
  have hx := bl_cx E n
  have hm := bl_lt E n
  have hd := bl_nodup E n
  rcases he : bl E n with _ | ⟨i, _ | ⟨j, _ | ⟨l, _ | ⟨q, t⟩⟩⟩⟩ <;> rw [he] at hl hx hm hd
  · exact .inl ⟨hl.symm, hx⟩
  · refine .inr (.inl ⟨hl.symm, i, (hm i (by simp)).1, (hm i (by simp)).2, ?_⟩)
    rw [hx]; exact Nat.zero_xor _
  · refine .inr (.inr (.inl ⟨hl.symm, i, j, (hm i (by simp)).1, (hm j (by simp)).1, ?_, ?_⟩))
    · intro e; rw [e] at hd; simp at hd
    · rw [hx]
      show (0 ^^^ col j) ^^^ col i = _
      rw [Nat.zero_xor, Nat.xor_comm]
  · refine .inr (.inr (.inr (.inl ⟨hl.symm, i, j, l, (hm i (by simp)).1, (hm j (by simp)).1, (hm l (by simp)).1, ?_, ?_⟩)))
    · intro e; rw [e] at hd; simp at hd
    · rw [hx]
      show ((0 ^^^ col l) ^^^ col j) ^^^ col i = _
      rw [Nat.zero_xor, Nat.xor_assoc, Nat.xor_comm, Nat.xor_comm (col j)]
  · refine .inr (.inr (.inr (.inr ?_)))
    rw [← hl]; simp only [List.length_cons]; omega

/-! ### a word of 74 bits: 64 of data, 8 of checks, the address's, the poison's -/
/-- all of them -/
def em (e f da dp : Nat) : Nat := e + 18446744073709551616 * (f + 256 * (da + 2 * dp))
theorem xs_congr (d e n : Nat) (h : ∀ i, i < n → d / 2 ^ i % 2 = e / 2 ^ i % 2) : xs d n = xs e n := by
  induction n with
  | zero => rfl
  | succ n ih =>
    have hn := h n (by omega)
    by_cases hb : d / 2 ^ n % 2 = 1
    · rw [Hm.xs_yes d n hb, Hm.xs_yes e n (by omega), ih fun i hi => h i (by omega)]
    · rw [Hm.xs_no d n hb, Hm.xs_no e n (by omega), ih fun i hi => h i (by omega)]
theorem div_low (e m n i : Nat) (hi : i < n) : (e + 2 ^ n * m) / 2 ^ i % 2 = e / 2 ^ i % 2 := by
  obtain ⟨k, rfl⟩ : ∃ k, n = i + (k + 1) := ⟨n - i - 1, by omega⟩
  rw [Nat.pow_add, Nat.mul_assoc, Nat.add_mul_div_left _ _ (Nat.two_pow_pos i), Nat.pow_succ, Nat.mul_comm (2 ^ k) 2, Nat.mul_assoc]
  omega
theorem div_high (e m n : Nat) (he : e < 2 ^ n) (i : Nat) : (e + 2 ^ n * m) / 2 ^ (n + i) = m / 2 ^ i := by
  rw [Nat.pow_add, ← Nat.div_div_eq_div_mul, Nat.add_mul_div_left _ _ (Nat.two_pow_pos n), Nat.div_eq_of_lt he, Nat.zero_add]
theorem xs_top (f x : Nat) (hf : f < 256) : ((((((((x ^^^ (if f / 2 ^ 0 % 2 = 1 then col 64 else 0)) ^^^ (if f / 2 ^ 1 % 2 = 1 then col 65 else 0)) ^^^ (if f / 2 ^ 2 % 2 = 1 then col 66 else 0)) ^^^ (if f / 2 ^ 3 % 2 = 1 then col 67 else 0)) ^^^ (if f / 2 ^ 4 % 2 = 1 then col 68 else 0)) ^^^ (if f / 2 ^ 5 % 2 = 1 then col 69 else 0)) ^^^ (if f / 2 ^ 6 % 2 = 1 then col 70 else 0)) ^^^ (if f / 2 ^ 7 % 2 = 1 then col 71 else 0)) = x ^^^ f := by
  have h : ∀ f < 256, (((((((if f / 2 ^ 0 % 2 = 1 then col 64 else 0) ^^^ (if f / 2 ^ 1 % 2 = 1 then col 65 else 0)) ^^^ (if f / 2 ^ 2 % 2 = 1 then col 66 else 0)) ^^^ (if f / 2 ^ 3 % 2 = 1 then col 67 else 0)) ^^^ (if f / 2 ^ 4 % 2 = 1 then col 68 else 0)) ^^^ (if f / 2 ^ 5 % 2 = 1 then col 69 else 0)) ^^^ (if f / 2 ^ 6 % 2 = 1 then col 70 else 0)) ^^^ (if f / 2 ^ 7 % 2 = 1 then col 71 else 0) = f := by decide +kernel
  simp only [Nat.xor_assoc] at h ⊢
  rw [h f hf]
theorem xs_step (E n : Nat) : xs E (n + 1) = xs E n ^^^ (if E / 2 ^ n % 2 = 1 then col n else 0) := rfl
theorem xs_ten (E x f da dp : Nat) (hf : f < 256) (hda : da < 2) (hdp : dp < 2) (hlo : xs E 64 = x) (hhi : ∀ i, E / 2 ^ (64 + i) = (f + 2 ^ 8 * (da + 2 * dp)) / 2 ^ i) :
    xs E (64 + 10) = ((x ^^^ f) ^^^ (if da = 1 then col 72 else 0)) ^^^ (if dp = 1 then col 73 else 0) := by
  have hmid : ∀ i, i < 8 → E / 2 ^ (64 + i) % 2 = f / 2 ^ i % 2 := fun i hi => by rw [hhi, div_low f _ 8 i hi]
  have h8 : E / 2 ^ (64 + 8) % 2 = da := by rw [hhi 8]; omega
  have h9 : E / 2 ^ (64 + 9) % 2 = dp := by rw [hhi 9]; omega
  have t := xs_top f x hf
  rw [← hmid 0 (by omega), ← hmid 1 (by omega), ← hmid 2 (by omega), ← hmid 3 (by omega), ← hmid 4 (by omega), ← hmid 5 (by omega), ← hmid 6 (by omega), ← hmid 7 (by omega), ← hlo] at t
  have e1 : xs E (64 + 8) = xs E 64 ^^^ f := t
  have e2 : xs E (64 + 9) = xs E (64 + 8) ^^^ (if E / 2 ^ (64 + 8) % 2 = 1 then col 72 else 0) := rfl
  have e3 : xs E (64 + 10) = xs E (64 + 9) ^^^ (if E / 2 ^ (64 + 9) % 2 = 1 then col 73 else 0) := rfl
  rw [e3, e2, e1, h8, h9, hlo]
theorem em_xs (e f da dp : Nat) (he : e < 18446744073709551616) (hf : f < 256) (hda : da < 2) (hdp : dp < 2) :
    xs (em e f da dp) 74 = ((xs e 64 ^^^ f) ^^^ (if da = 1 then col 72 else 0)) ^^^ (if dp = 1 then col 73 else 0) :=
  xs_ten (em e f da dp) (xs e 64) f da dp hf hda hdp (xs_congr _ _ 64 fun i hi => div_low e _ 64 i hi) (fun i => div_high e _ 64 he i)
theorem wt_ten (E e f da dp : Nat) (hf : f < 256) (hda : da < 2) (hdp : dp < 2) (h2 : E % 2 ^ 64 = e) (h3 : E / 2 ^ 64 = f + 2 ^ 8 * (da + 2 * dp)) : wtK (64 + 10) E = wt e + wt f + da + dp := by
  have h4 : wtK 64 E = wt e := by
    have := Bm.wtK_mod 64 E
    rw [h2] at this
    unfold wt
    exact this.symm
  have h5 : wtK 8 (f + 2 ^ 8 * (da + 2 * dp)) = wt f := by
    have := Bm.wtK_mod 8 (f + 2 ^ 8 * (da + 2 * dp))
    rw [show (f + 2 ^ 8 * (da + 2 * dp)) % 2 ^ 8 = f by omega, Bm.wtK_wt 8 f (by decide) hf] at this
    exact this.symm
  have h6 : (f + 2 ^ 8 * (da + 2 * dp)) / 2 ^ 8 = da + 2 * dp := by omega
  have h7 : wtK 2 (da + 2 * dp) = da + dp := by
    rcases (show da = 0 ∨ da = 1 by omega) with rfl | rfl <;> rcases (show dp = 0 ∨ dp = 1 by omega) with rfl | rfl <;> decide
  have h8 := Bm.wtK_add 8 2 (f + 2 ^ 8 * (da + 2 * dp))
  rw [h5, h6, h7] at h8
  rw [Bm.wtK_add 64 10 E, h4, h3, show 10 = 8 + 2 from rfl, h8]
  omega
theorem em_wt (e f da dp : Nat) (he : e < 18446744073709551616) (hf : f < 256) (hda : da < 2) (hdp : dp < 2) : wtK 74 (em e f da dp) = wt e + wt f + da + dp := by
  have h2 : em e f da dp % 18446744073709551616 = e := by unfold em; omega
  have h3 : em e f da dp / 18446744073709551616 = f + 256 * (da + 2 * dp) := by unfold em; omega
  obtain ⟨E, hE⟩ : ∃ E, em e f da dp = E := ⟨_, rfl⟩
  rw [hE] at h2 h3 ⊢
  exact wt_ten E e f da dp hf hda hdp h2 h3
/-- where one bit alone is set -/
theorem wt_one (n x i : Nat) (hx : x < 2 ^ n) (hi : i < n) (hb : x / 2 ^ i % 2 = 1) (h : wtK n x = 1) : x = 2 ^ i := by
  induction n generalizing x i with
  | zero => omega
  | succ n ih =>
    rw [wtK] at h
    rw [Nat.pow_succ] at hx
    cases i with
    | zero =>
      have h1 : x % 2 = 1 := by simpa using hb
      have := Rw.wtK_nil n (x / 2) (by omega) (by omega)
      simp; omega
    | succ i =>
      have hb' : x / 2 / 2 ^ i % 2 = 1 := by rw [Nat.div_div_eq_div_mul, ← Nat.pow_succ']; exact hb
      have hne : wtK n (x / 2) ≠ 0 := fun e => by
        have := Rw.wtK_nil n (x / 2) e (by omega)
        rw [this] at hb'
        simp at hb'
      have := ih (x / 2) i (by omega) (by omega) hb' (by omega)
      rw [Nat.pow_succ]
      have h2 : x % 2 = 0 := by omega
      omega
end Go.Proofs.YtdjknaafefnlcaaDoor.Co
