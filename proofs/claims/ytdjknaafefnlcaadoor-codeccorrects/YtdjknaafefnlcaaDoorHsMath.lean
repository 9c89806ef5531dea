/-
  Plain mathematics of layer 4: the 74 columns, which are the words of 8 bits with three, five, one and five ones, counted; the syndrome as an exclusive or, which is linear; whose column a syndrome is.
-/
import Derived.Test.YtdjknaafefnlcaaDoorBitMath
namespace Go.Proofs.YtdjknaafefnlcaaDoor.Hm
open Go Go.RowKit
open Bm (wt wtK cntW)

/-- the 74 columns -/
def colL : List Nat := [7, 11, 13, 14, 19, 21, 22, 25, 26, 28, 35, 37, 38, 41, 42, 44, 49, 50, 52, 56, 67, 69, 70, 73, 74, 76, 81, 82, 84, 88, 97, 98, 100, 104, 112, 131, 133, 134, 137, 138, 140, 145, 146, 148, 152, 161, 162, 164, 168, 176, 193, 194, 196, 200, 208, 224,
  31, 47, 55, 59, 61, 62, 79, 87, 1, 2, 4, 8, 16, 32, 64, 128, 91, 93]
def col (i : Nat) : Nat := colL.getD i 0
/-- how many ones the column of the bit i has, and how many words with so many come ahead of it -/
def onesOf (i : Nat) : Nat := if i < 56 then 3 else if i < 64 then 5 else if i < 72 then 1 else 5
def nOf (i : Nat) : Nat := if i < 56 then i else if i < 64 then i - 56 else i - 64
theorem col_all : ∀ i < 74, col i < 256 ∧ 0 < col i ∧ wt (col i) = onesOf i ∧ cntW (onesOf i : Int) (col i) = nOf i := by decide +kernel
theorem col_lt (i : Nat) : col i < 256 := by
  by_cases h : i < 74
  · exact (col_all i h).1
  · rw [show col i = 0 from by unfold col; rw [List.getD_eq_getElem?_getD, List.getElem?_eq_none (by simpa [colL] using h)]; rfl]; decide
theorem col_at {i x : Nat} (hi : i < 74) (hw : wt x = onesOf i) (hn : cntW (onesOf i : Int) x = nOf i) : x = col i := by
  obtain ⟨_, _, h1, h2⟩ := col_all i hi
  rcases Nat.lt_trichotomy x (col i) with h | h | h
  · have := Bm.cntW_mono (onesOf i : Int) (x + 1) (col i) h
    rw [Bm.cntW_yes _ _ (by rw [hw])] at this; omega
  · exact h
  · have := Bm.cntW_mono (onesOf i : Int) (col i + 1) x h
    rw [Bm.cntW_yes _ _ (by rw [h1])] at this; omega
theorem cnt_before {i x : Nat} (hi : i < 74) (hx : x ≤ col i) : cntW (onesOf i : Int) x ≤ nOf i := by
  have := Bm.cntW_mono (onesOf i : Int) x (col i) hx
  rw [(col_all i hi).2.2.2] at this; exact this
/-- the columns are unlike -/
theorem col_inj : ∀ i < 74, ∀ j < 74, col i = col j → i = j := by decide +kernel
/-- two of them are no column, and not 0 -/
theorem col_odd : ∀ i < 74, wt (col i) % 2 = 1 := by decide +kernel
theorem xor_ne {a b : Nat} (h : a ≠ b) : a ^^^ b ≠ 0 := fun e => h (by
  have : (a ^^^ b) ^^^ b = b := by rw [e, Nat.zero_xor]
  rw [Nat.xor_assoc, Nat.xor_self, Nat.xor_zero] at this
  exact this)
theorem two_lost (i : Nat) (hi : i < 74) (j : Nat) (hj : j < 74) (h : i ≠ j) : col i ^^^ col j ≠ 0 ∧ ∀ l < 74, col l ≠ col i ^^^ col j := by
  refine ⟨xor_ne fun e => h (col_inj i hi j hj e), fun l hl e => ?_⟩
  have h1 := col_odd i hi
  have h2 := col_odd j hj
  have h3 := col_odd l hl
  have h4 : wt (col i ^^^ col j) + 2 * wt (col i &&& col j) = wt (col i) + wt (col j) := Bm.wtK_xor 64 _ _
  rw [← e] at h4
  omega
theorem col_check : ∀ i < 8, col (64 + i) = 2 ^ i := by decide +kernel

/-! ### the syndrome -/
/-- of the lowest n bits of d -/
def xs (d : Nat) : Nat → Nat
  | 0 => 0
  | n + 1 => xs d n ^^^ (if d / 2 ^ n % 2 = 1 then col n else 0)
theorem xor_lt {a b : Nat} (ha : a < 256) (hb : b < 256) : a ^^^ b < 256 := Nat.xor_lt_two_pow (n := 8) ha hb
theorem xs_lt (d n : Nat) : xs d n < 256 := by
  induction n with
  | zero => simp [xs]
  | succ n ih =>
    unfold xs
    refine xor_lt ih ?_
    split
    · exact col_lt n
    · decide
theorem xs_yes (d n : Nat) (h : d / 2 ^ n % 2 = 1) : xs d (n + 1) = xs d n ^^^ col n := by simp [xs, h]
theorem xs_no (d n : Nat) (h : ¬ d / 2 ^ n % 2 = 1) : xs d (n + 1) = xs d n := by simp [xs, h]
theorem bit_iff (b k : Nat) : ((b / 2 ^ k) % 2 = 1) ↔ b.testBit k = true := by
  rw [Nat.testBit_eq_decide_div_mod_eq]; simp
theorem xs_xor (d e n : Nat) : xs (d ^^^ e) n = xs d n ^^^ xs e n := by
  induction n with
  | zero => simp [xs]
  | succ n ih =>
    unfold xs
    rw [ih]
    simp only [bit_iff, Nat.testBit_xor]
    generalize xs d n = u
    generalize xs e n = v
    generalize col n = z
    cases d.testBit n <;> cases e.testBit n <;> simp
    · ac_rfl
    · ac_rfl
    · rw [show u ^^^ z ^^^ (v ^^^ z) = (u ^^^ v) ^^^ (z ^^^ z) from by ac_rfl, Nat.xor_self, Nat.xor_zero]
theorem xs_pow_lo (i n : Nat) (h : n ≤ i) : xs (2 ^ i) n = 0 := by
  induction n with
  | zero => rfl
  | succ n ih =>
    rw [xs_no]
    · exact ih (by omega)
    · rw [bit_iff, Nat.testBit_two_pow_of_ne (by omega)]; simp
theorem xs_pow (i n : Nat) (h : i < n) : xs (2 ^ i) n = col i := by
  induction n with
  | zero => omega
  | succ n ih =>
    by_cases e : i = n
    · subst e
      rw [xs_yes _ _ (by rw [bit_iff, Nat.testBit_two_pow_self]), xs_pow_lo i i (Nat.le_refl _), Nat.zero_xor]
    · rw [xs_no _ _ (by rw [bit_iff, Nat.testBit_two_pow_of_ne e]; simp)]
      exact ih (by omega)
theorem xs_zero (n : Nat) : xs 0 n = 0 := by
  induction n with
  | zero => rfl
  | succ n ih => rw [xs_no _ _ (by simp), ih]

/-- an address's, a poison's part -/
def ap (a : Int) (i : Nat) : Nat := if a % 2 = 1 then col i else 0
theorem ap_lt (a : Int) (i : Nat) : ap a i < 256 := by
  unfold ap; split
  · exact col_lt i
  · decide
/-- the syndrome -/
def syn (d k : Nat) (a p : Int) : Nat := ((k ^^^ xs d 64) ^^^ ap a 72) ^^^ ap p 73
theorem syn_lt (d k : Nat) (a p : Int) (hk : k < 256) : syn d k a p < 256 := xor_lt (xor_lt (xor_lt hk (xs_lt d 64)) (ap_lt a 72)) (ap_lt p 73)
theorem syn_check (d k : Nat) (a p : Int) : syn d k a p = k ^^^ syn d 0 a p := by
  unfold syn; rw [Nat.zero_xor]; simp only [Nat.xor_assoc]
/-- with the check bits of the data it is 0 -/
theorem syn_code (d : Nat) (a p : Int) : syn d (syn d 0 a p) a p = 0 := by
  rw [syn_check]; exact Nat.xor_self _
theorem syn_addr (d k : Nat) (a b p : Int) : syn d k b p = syn d k a p ^^^ (ap a 72 ^^^ ap b 72) := by
  unfold syn
  generalize k ^^^ xs d 64 = z
  generalize ap a 72 = u
  generalize ap b 72 = v
  generalize ap p 73 = x
  rw [show z ^^^ u ^^^ x ^^^ (u ^^^ v) = (z ^^^ v ^^^ x) ^^^ (u ^^^ u) from by ac_rfl, Nat.xor_self, Nat.xor_zero]
theorem syn_pois (d k : Nat) (a p q : Int) : syn d k a q = syn d k a p ^^^ (ap p 73 ^^^ ap q 73) := by
  unfold syn
  generalize k ^^^ xs d 64 ^^^ ap a 72 = z
  generalize ap p 73 = u
  generalize ap q 73 = v
  rw [show z ^^^ u ^^^ (u ^^^ v) = (z ^^^ v) ^^^ (u ^^^ u) from by ac_rfl, Nat.xor_self, Nat.xor_zero]
theorem syn_data (d k i : Nat) (a p : Int) (hi : i < 64) : syn (d ^^^ 2 ^ i) k a p = syn d k a p ^^^ col i := by
  unfold syn; rw [xs_xor, xs_pow i 64 hi]; ac_rfl
theorem syn_chk (d k i : Nat) (a p : Int) (hi : 64 ≤ i) (hi2 : i < 72) : syn d (k ^^^ 2 ^ (i - 64)) a p = syn d k a p ^^^ col i := by
  have := col_check (i - 64) (by omega)
  rw [show 64 + (i - 64) = i from by omega] at this
  unfold syn; rw [this]; ac_rfl
theorem ap_flip (a : Int) (i : Nat) (h : a = 0 ∨ a = 1) : ap a i ^^^ ap (1 - a) i = col i := by
  rcases h with rfl | rfl
  · rw [show ap 0 i = 0 from rfl, show ap (1 - 0) i = col i from rfl, Nat.zero_xor]
  · rw [show ap 1 i = col i from rfl, show ap (1 - 1) i = 0 from rfl, Nat.xor_zero]

/-! ### whose column -/
/-- the first bit from i on, of n, whose column is s; -1 if none -/
def idx (s : Nat) : Nat → Nat → Int
  | 0, _ => -1
  | n + 1, i => if col i = s then i else idx s n (i + 1)
theorem idx_none (s n i : Nat) (h : ∀ j, i ≤ j → j < i + n → col j ≠ s) : idx s n i = -1 := by
  induction n generalizing i with
  | zero => rfl
  | succ n ih =>
    unfold idx
    rw [if_neg (h i (by omega) (by omega))]
    exact ih (i + 1) fun j h1 h2 => h j (by omega) (by omega)
theorem idx_some (s n i j : Nat) (h1 : i ≤ j) (h2 : j < i + n) (hj : col j = s) (hb : ∀ l, i ≤ l → l < j → col l ≠ s) : idx s n i = j := by
  induction n generalizing i with
  | zero => omega
  | succ n ih =>
    unfold idx
    by_cases e : i = j
    · subst e; rw [if_pos hj]
    · rw [if_neg (hb i (by omega) (by omega))]
      exact ih (i + 1) (by omega) (by omega) fun l a b => hb l (by omega) b
/-- a syndrome's verdict and place -/
def kd (s : Nat) : Int := if s = 0 then 0 else if idx s 74 0 = -1 then 4 else if idx s 74 0 = 72 then 3 else if idx s 74 0 = 73 then 2 else 1
def pl (s : Nat) : Int := if s = 0 then -1 else if idx s 74 0 = 72 then -1 else if idx s 74 0 = 73 then -1 else idx s 74 0
theorem kd_zero : kd 0 = 0 := rfl
theorem pl_zero : pl 0 = -1 := rfl
theorem kd_two : ∀ i < 74, ∀ j < 74, i ≠ j → kd (col i ^^^ col j) = 4 := by
  intro i hi j hj h
  obtain ⟨h0, h1⟩ := two_lost i hi j hj h
  unfold kd
  rw [if_neg h0, idx_none _ _ _ (fun l _ hl => h1 l (by omega))]; rfl
theorem kd_three (i j l : Nat) (hi : i < 74) (hj : j < 74) (hl : l < 74) (h : i ≠ j) : kd ((col i ^^^ col j) ^^^ col l) ≠ 0 := by
  obtain ⟨_, h1⟩ := two_lost i hi j hj h
  have h2 : (col i ^^^ col j) ^^^ col l ≠ 0 := xor_ne fun e => h1 l hl e.symm
  unfold kd
  rw [if_neg h2]
  split
  · decide
  · split
    · decide
    · split <;> decide
theorem fixed_one : ∀ i < 72, kd (col i) = 1 ∧ pl (col i) = i := by decide +kernel
theorem kd_poison : kd (col 73) = 2 := by decide +kernel
theorem kd_astray : kd (col 72) = 3 := by decide +kernel
end Go.Proofs.YtdjknaafefnlcaaDoor.Hm
