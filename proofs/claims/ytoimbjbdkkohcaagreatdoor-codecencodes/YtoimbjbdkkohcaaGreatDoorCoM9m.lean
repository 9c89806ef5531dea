/-
  The checks of a word of 39 symbols, by division.
-/
import Derived.Test.YtoimbjbdkkohcaaGreatDoorM09
namespace Go.Proofs.YtoimbjbdkkohcaaGreatDoor.Co
open Go Go.RowKit
open Po (El mu pwr ev toE Low)
open Rm (al sy At IsCode)

/-- the product of z and the first k powers of x, coefficient by coefficient -/
def GG : Nat → Nat → El
  | 0, p => if p = 0 then 1 else 0
  | k + 1, p => mu (GG k p) (al k) ^^^ (if 0 < p then GG k (p - 1) else 0)
theorem GG_top : GG 4 4 = 1 := by decide +kernel
theorem GG_root : ∀ j, j < 4 → ev 5 (GG 4) (al j) = 0 := by decide +kernel
/-- m coefficients from d on -/
def sh (f : Nat → El) (d m p : Nat) : El := if d ≤ p ∧ p < d + m then f (p - d) else 0
theorem ev_nil (f : Nat → El) (x : El) : ∀ n, (∀ p, p < n → f p = 0) → ev n f x = 0
  | 0, _ => rfl
  | n + 1, h => by
    show ev n f x ^^^ mu (f n) (pwr x n) = 0
    rw [ev_nil f x n (fun p hp => h p (by omega)), h n (by omega), Po.zero_mu]; rfl
theorem ev_sh (f : Nat → El) (d m : Nat) (x : El) : ∀ t, t ≤ m → ev (d + t) (sh f d m) x = mu (pwr x d) (ev t f x)
  | 0, _ => by
    rw [ev_nil _ x (d + 0) (fun p hp => by unfold sh; rw [if_neg (by omega)])]
    show (0 : El) = mu (pwr x d) 0
    rw [Po.mu_zero]
  | t + 1, ht => by
    show ev (d + t) (sh f d m) x ^^^ mu (sh f d m (d + t)) (pwr x (d + t)) = mu (pwr x d) (ev t f x ^^^ mu (f t) (pwr x t))
    rw [ev_sh f d m x t (by omega), Po.mu_xor, Po.pwr_add]
    congr 1
    unfold sh
    rw [if_pos (by omega), show d + t - d = t by omega, ← Po.mu_assoc, Po.mu_comm (f t), Po.mu_assoc]
theorem sh_low (f : Nat → El) (d m : Nat) : Low (d + m) (sh f d m) := fun i hi => by unfold sh; rw [if_neg (by omega)]
/-- while a word is divided: behind t steps -/
def DV (W : Nat → El) : Nat → Nat → El
  | 0, p => W p
  | t + 1, p => if 34 - t ≤ p ∧ p ≤ 38 - t then DV W t p ^^^ mu (DV W t (38 - t)) (GG 4 (p - (34 - t))) else DV W t p
theorem DV_next (W : Nat → El) (q p : Nat) (hq : q < 35) : DV W (35 - q) p = if q ≤ p ∧ p ≤ q + 4 then DV W (34 - q) p ^^^ mu (DV W (34 - q) (q + 4)) (GG 4 (p - q)) else DV W (34 - q) p := by
  have h : 35 - q = (34 - q) + 1 := by omega
  rw [h, DV, show 34 - (34 - q) = q by omega, show 38 - (34 - q) = q + 4 by omega]
theorem DV_sy (W : Nat → El) (j : Nat) (hj : j < 4) : ∀ t, t ≤ 35 → sy (DV W t) j = sy W j
  | 0, _ => rfl
  | t + 1, ht => by
    obtain ⟨a, ha⟩ : ∃ a, DV W t (38 - t) = a := ⟨_, rfl⟩
    have e : DV W (t + 1) = fun p => DV W t p ^^^ sh (fun k => mu a (GG 4 k)) (34 - t) 5 p := by
      funext p
      rw [DV, ha]
      unfold sh
      by_cases h : 34 - t ≤ p ∧ p ≤ 38 - t
      · rw [if_pos h, if_pos (by omega)]
      · rw [if_neg h, if_neg (by omega), Po.x0]
    have hz : sy (sh (fun k => mu a (GG 4 k)) (34 - t) 5) j = 0 := by
      show ev 39 _ (al j) = 0
      rw [Po.ev_more (sh_low _ (34 - t) 5) (by omega), ev_sh _ _ _ _ 5 (by omega)]
      have : ev 5 (fun k => mu a (GG 4 k)) (al j) = 0 := by
        have h2 : (fun k => mu a (GG 4 k)) = fun k => mu (GG 4 k) a := by funext k; rw [Po.mu_comm]
        rw [h2, Po.ev_scale, GG_root j hj, Po.zero_mu]
      rw [this, Po.mu_zero]
    rw [e]
    have := congrFun (sy_xor (DV W t) (sh (fun k => mu a (GG 4 k)) (34 - t) 5)) j
    rw [this, hz, Po.x0, DV_sy W j hj t (by omega)]
theorem DV_zero (W : Nat → El) : ∀ t, t ≤ 35 → ∀ p, 38 - t < p → p ≤ 38 → DV W t p = 0
  | 0, _, p, h1, h2 => by omega
  | t + 1, ht, p, h1, h2 => by
    rw [DV]
    by_cases e : p = 38 - t
    · subst e
      rw [if_pos (by omega), show 38 - t - (34 - t) = 4 by omega, GG_top, Po.mu_one, Po.xor_self']
    · rw [if_neg (by omega)]
      exact DV_zero W t (by omega) p (by omega) h2
/-- a word with what is left as its checks is a code word -/
theorem chk_code (W : Nat → El) (hW : ∀ p, p < 4 → W p = 0) : IsCode (fun p => if p < 4 then DV W 35 p else W p) := fun j hj => by
  show sy _ j = 0
  have e : sy (fun p => if p < 4 then DV W 35 p else W p) = sy (fun p => W p ^^^ DV W 35 p) := sy_congr fun p hp => by
    by_cases h : p < 4
    · rw [if_pos h, hW p h, Po.z0]
    · rw [if_neg h, DV_zero W 35 (by omega) p (by omega) (by omega), Po.x0]
  rw [e]
  have := congrFun (sy_xor W (DV W 35)) j
  rw [this, DV_sy W j hj 35 (by omega), Po.xor_self']
end Go.Proofs.YtoimbjbdkkohcaaGreatDoor.Co
