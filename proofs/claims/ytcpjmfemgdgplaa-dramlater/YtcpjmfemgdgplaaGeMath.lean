/-
  Geometries, by numbers alone: which are right, which places they have, a place's index; plain mathematics.
-/
import Derived.Test.YtcpjmfemgdgplaaBitMath
namespace Go.Proofs.Ytcpjmfemgdgplaa
open Go.RowKit
open Bm (wt wtK)
namespace Ge

/-- a power of 2 up to m, of those up to 1024 -/
def pw (n m : Int) : Bool := decide (n = 1 ∨ n = 2 ∨ n = 4 ∨ n = 8 ∨ n = 16 ∨ n = 32 ∨ n = 64 ∨ n = 128 ∨ n = 256 ∨ n = 512 ∨ n = 1024) && decide (n ≤ m)
theorem pw_pos {n m : Int} (h : pw n m = true) : 0 < n ∧ n ≤ m := by
  unfold pw at h
  simp only [Bool.and_eq_true, decide_eq_true_eq] at h
  omega
theorem pw_low {n m : Int} (h : n ≤ 0) : pw n m = false := by
  cases e : pw n m with
  | false => rfl
  | true => have := pw_pos e; omega
theorem pw_high {n m : Int} (h : m < n) : pw n m = false := by
  cases e : pw n m with
  | false => rfl
  | true => have := pw_pos e; omega
def isp (k : Nat) : Bool := decide (k = 1 ∨ k = 2 ∨ k = 4 ∨ k = 8 ∨ k = 16 ∨ k = 32 ∨ k = 64 ∨ k = 128 ∨ k = 256 ∨ k = 512 ∨ k = 1024)
theorem isp_wt : ∀ k, k < 1025 → decide (wt k = 1) = isp k := by decide +kernel
theorem isp_pw (k : Nat) (m : Int) (h : (k : Int) ≤ m) : isp k = pw k m := by
  unfold isp pw
  rw [decide_eq_true h, Bool.and_true, Bool.eq_iff_iff, decide_eq_true_eq, decide_eq_true_eq]
  omega

/-- a right geometry: ranks, spares, banks, rows, columns -/
def rt (r s b o c : Int) : Bool := pw r 8 && decide (0 ≤ s) && decide (s ≤ 8 - r) && pw b 16 && pw o 1024 && pw c 64 && decide ((r + s) * b * o * c ≤ 4096)
theorem rt_all {r s b o c : Int} (h : rt r s b o c = true) : (0 < r ∧ r ≤ 8) ∧ (0 ≤ s ∧ s ≤ 8 - r) ∧ (0 < b ∧ b ≤ 16) ∧ (0 < o ∧ o ≤ 1024) ∧ (0 < c ∧ c ≤ 64) ∧ (r + s) * b * o * c ≤ 4096 := by
  unfold rt at h
  simp only [Bool.and_eq_true, decide_eq_true_eq] at h
  obtain ⟨⟨⟨⟨⟨⟨h1, h2⟩, h3⟩, h4⟩, h5⟩, h6⟩, h7⟩ := h
  exact ⟨pw_pos h1, ⟨h2, h3⟩, pw_pos h4, pw_pos h5, pw_pos h6, h7⟩
/-- a geometry has a place -/
def hd (r s b o c p q u v : Int) : Bool := rt r s b o c && decide (0 ≤ p ∧ p < r + s) && decide (0 ≤ q ∧ q < b) && decide (0 ≤ u ∧ u < o) && decide (0 ≤ v ∧ v < c)
theorem hd_all {r s b o c p q u v : Int} (h : hd r s b o c p q u v = true) : rt r s b o c = true ∧ (0 ≤ p ∧ p < r + s) ∧ (0 ≤ q ∧ q < b) ∧ (0 ≤ u ∧ u < o) ∧ (0 ≤ v ∧ v < c) := by
  unfold hd at h
  simp only [Bool.and_eq_true, decide_eq_true_eq] at h
  obtain ⟨⟨⟨⟨h1, h2⟩, h3⟩, h4⟩, h5⟩ := h
  exact ⟨h1, h2, h3, h4, h5⟩
/-- a place's index -/
def ix (p q u v : Int) : Int := 1048576 * p + 65536 * q + 64 * u + v
end Ge
end Go.Proofs.Ytcpjmfemgdgplaa
