/-
  Where pages are laid, by numbers alone: three digits of a number, the mixed bank, the four ways; plain mathematics.
-/
import Derived.Test.YtalbloeaojpbgaaGeMath
namespace Go.Proofs.Ytalbloeaojpbgaa
open Go.RowKit
open Ge (pw rt hd ix)
namespace In

/-- the bank with the row's lowest bits mixed in -/
def mx (b q u : Int) : Int := ((q.toNat ^^^ (u % b).toNat : Nat) : Int)
theorem pw_two {b m : Int} (h : pw b m = true) : ∃ k : Nat, k ≤ 10 ∧ b = ((2 ^ k : Nat) : Int) := by
  unfold pw at h
  simp only [Bool.and_eq_true, decide_eq_true_eq] at h
  obtain ⟨h, _⟩ := h
  rcases h with h | h | h | h | h | h | h | h | h | h | h
  · exact ⟨0, by omega, h⟩
  · exact ⟨1, by omega, h⟩
  · exact ⟨2, by omega, h⟩
  · exact ⟨3, by omega, h⟩
  · exact ⟨4, by omega, h⟩
  · exact ⟨5, by omega, h⟩
  · exact ⟨6, by omega, h⟩
  · exact ⟨7, by omega, h⟩
  · exact ⟨8, by omega, h⟩
  · exact ⟨9, by omega, h⟩
  · exact ⟨10, by omega, h⟩
theorem mx_lt {b q u : Int} {m : Int} (h : pw b m = true) (hq : 0 ≤ q ∧ q < b) : 0 ≤ mx b q u ∧ mx b q u < b := by
  obtain ⟨k, _, rfl⟩ := pw_two h
  have hu := Int.emod_nonneg u (show ((2 ^ k : Nat) : Int) ≠ 0 by omega)
  have hu2 := Int.emod_lt_of_pos u (show (0 : Int) < ((2 ^ k : Nat) : Int) by omega)
  have := Nat.xor_lt_two_pow (x := q.toNat) (y := (u % ((2 ^ k : Nat) : Int)).toNat) (n := k) (by omega) (by omega)
  unfold mx
  omega
theorem mx_mx {b q u : Int} (hq : 0 ≤ q) : mx b (mx b q u) u = q := by
  unfold mx
  rw [Int.toNat_natCast, Nat.xor_assoc, Nat.xor_self, Nat.xor_zero]
  omega

/-- three digits of a number -/
theorem dg {x a b : Int} (ha : 0 < a) (hb : 0 < b) (hx : 0 ≤ x) : (0 ≤ x % a ∧ x % a < a) ∧ (0 ≤ x / a % b ∧ x / a % b < b) ∧ 0 ≤ x / a / b ∧ (x / a / b * b + x / a % b) * a + x % a = x := by
  refine ⟨⟨Int.emod_nonneg _ (by omega), Int.emod_lt_of_pos _ ha⟩, ⟨Int.emod_nonneg _ (by omega), Int.emod_lt_of_pos _ hb⟩, Int.ediv_nonneg (Int.ediv_nonneg hx (by omega)) (by omega), ?_⟩
  rw [Int.ediv_mul_add_emod, Int.ediv_mul_add_emod]
theorem dg_top {x a b c : Int} (ha : 0 < a) (hb : 0 < b) (h : x < c * b * a) : x / a / b < c := Int.ediv_lt_of_lt_mul hb (Int.ediv_lt_of_lt_mul ha h)
theorem dg_one {y a d : Int} (h : 0 ≤ d ∧ d < a) : (y * a + d) % a = d ∧ (y * a + d) / a = y := by
  constructor
  · rw [Int.add_comm, Int.add_mul_emod_self_right]; exact Int.emod_eq_of_lt h.1 h.2
  · rw [Int.add_comm, Int.add_mul_ediv_right _ _ (by omega), Int.ediv_eq_zero_of_lt h.1 h.2, Int.zero_add]
theorem dg_of {x a b d0 d1 d2 : Int} (h0 : 0 ≤ d0 ∧ d0 < a) (h1 : 0 ≤ d1 ∧ d1 < b) (hx : x = (d2 * b + d1) * a + d0) : x % a = d0 ∧ x / a % b = d1 ∧ x / a / b = d2 := by
  subst hx
  rw [(dg_one h0).1, (dg_one h0).2, (dg_one h1).1, (dg_one h1).2]
  exact ⟨rfl, rfl, rfl⟩
theorem dg_less {a b c d0 d1 d2 : Int} (h0 : 0 ≤ d0 ∧ d0 < a) (h1 : 0 ≤ d1 ∧ d1 < b) (h2 : 0 ≤ d2 ∧ d2 < c) : 0 ≤ (d2 * b + d1) * a + d0 ∧ (d2 * b + d1) * a + d0 < c * b * a := by
  have e1 : 0 ≤ d2 * b := Int.mul_nonneg h2.1 (by omega)
  have e2 : 0 ≤ (d2 * b + d1) * a := Int.mul_nonneg (by omega) (by omega)
  have e3 : (d2 + 1) * b ≤ c * b := Int.mul_le_mul_of_nonneg_right (by omega) (by omega)
  rw [Int.add_mul, Int.one_mul] at e3
  have e4 : (d2 * b + d1 + 1) * a ≤ c * b * a := Int.mul_le_mul_of_nonneg_right (by omega) (by omega)
  rw [Int.add_mul (d2 * b + d1), Int.one_mul] at e4
  omega
/-- the next number's digits -/
theorem dg_succ {x a b : Int} (ha : 0 < a) (hb : 0 < b) (hx : 0 ≤ x) :
    (x % a + 1 ≠ a ∧ x / a % b ≠ b ∧ (x + 1) % a = x % a + 1 ∧ (x + 1) / a % b = x / a % b ∧ (x + 1) / a / b = x / a / b) ∨
    (x % a + 1 = a ∧ x / a % b + 1 ≠ b ∧ (x + 1) % a = 0 ∧ (x + 1) / a % b = x / a % b + 1 ∧ (x + 1) / a / b = x / a / b) ∨
    (x % a + 1 = a ∧ x / a % b + 1 = b ∧ (x + 1) % a = 0 ∧ (x + 1) / a % b = 0 ∧ (x + 1) / a / b = x / a / b + 1) := by
  obtain ⟨h0, h1, _, h3⟩ := dg ha hb hx
  by_cases e0 : x % a + 1 = a
  · by_cases e1 : x / a % b + 1 = b
    · refine .inr (.inr ⟨e0, e1, dg_of ⟨by omega, ha⟩ ⟨by omega, hb⟩ ?_⟩)
      have e2 : (x / a / b + 1) * b + 0 = (x / a / b * b + x / a % b) + 1 := by rw [Int.add_mul]; omega
      rw [e2, Int.add_mul (x / a / b * b + x / a % b)]
      omega
    · refine .inr (.inl ⟨e0, e1, dg_of ⟨by omega, ha⟩ ⟨by omega, by omega⟩ ?_⟩)
      rw [← Int.add_assoc, Int.add_mul (x / a / b * b + x / a % b)]
      omega
  · exact .inl ⟨e0, by omega, dg_of ⟨by omega, by omega⟩ h1 (by omega)⟩

/-- the rank, the bank (not mixed) and the row of a page -/
def plR (way r b o p : Int) : Int := if way = 0 then p / o / b else if way = 1 then p / b / o else p % r
def plQ (way r b o p : Int) : Int := if way = 0 then p / o % b else if way = 1 then p % b else p / r % b
def plU (way r b o p : Int) : Int := if way = 0 then p % o else if way = 1 then p / b % o else p / r / b
/-- the bank that it is laid to -/
def plB (way r b o p : Int) : Int := if way = 3 then mx b (plQ way r b o p) (plU way r b o p) else plQ way r b o p
/-- the number of the page that it is laid to -/
def pgn (way r b o p : Int) : Int := 16384 * plR way r b o p + 1024 * plB way r b o p + plU way r b o p
/-- the page that is laid to a place -/
def bk (way r b o P Q U : Int) : Int := if way = 0 then (P * b + Q) * o + U else if way = 1 then (P * o + U) * b + Q else if way = 3 then (U * b + mx b Q U) * r + P else (U * b + Q) * r + P

theorem plQ_in {way r b o p : Int} (hr : 0 < r) (hb : 0 < b) (ho : 0 < o) (hp : 0 ≤ p) (hp2 : p < r * b * o) : (0 ≤ plR way r b o p ∧ plR way r b o p < r) ∧ (0 ≤ plQ way r b o p ∧ plQ way r b o p < b) ∧ (0 ≤ plU way r b o p ∧ plU way r b o p < o) := by
  unfold plR plQ plU
  by_cases h0 : way = 0
  · simp only [if_pos h0]
    obtain ⟨g0, g1, g2, _⟩ := dg ho hb hp
    have := dg_top (c := r) ho hb hp2
    exact ⟨⟨g2, this⟩, g1, g0⟩
  · by_cases h1 : way = 1
    · simp only [if_neg h0, if_pos h1]
      obtain ⟨g0, g1, g2, _⟩ := dg hb ho hp
      have := dg_top (c := r) hb ho (by rw [Int.mul_assoc, Int.mul_comm o b, ← Int.mul_assoc]; exact hp2)
      exact ⟨⟨g2, this⟩, g0, g1⟩
    · simp only [if_neg h0, if_neg h1]
      obtain ⟨g0, g1, g2, _⟩ := dg hr hb hp
      have := dg_top (c := o) hr hb (by rw [Int.mul_assoc, Int.mul_comm o, Int.mul_comm b r]; exact hp2)
      exact ⟨g0, g1, g2, this⟩
theorem plB_in {way r b o p m : Int} (hw : pw b m = true) (hr : 0 < r) (ho : 0 < o) (hp : 0 ≤ p) (hp2 : p < r * b * o) : 0 ≤ plB way r b o p ∧ plB way r b o p < b := by
  have hq := (plQ_in (way := way) hr (Ge.pw_pos hw).1 ho hp hp2).2.1
  unfold plB
  by_cases h3 : way = 3
  · rw [if_pos h3]; exact mx_lt hw hq
  · rw [if_neg h3]; exact hq
theorem bk_pl {way r b o p : Int} (hr : 0 < r) (hb : 0 < b) (ho : 0 < o) (hp : 0 ≤ p) (hp2 : p < r * b * o) : bk way r b o (plR way r b o p) (plB way r b o p) (plU way r b o p) = p := by
  have hq := (plQ_in (way := way) hr hb ho hp hp2).2.1
  by_cases h0 : way = 0
  · subst h0
    simp only [bk, plB, plR, plU, plQ, if_pos, if_neg (show ¬ (0 : Int) = 3 by omega)]
    exact (dg ho hb hp).2.2.2
  · by_cases h1 : way = 1
    · subst h1
      simp only [bk, plB, plR, plU, plQ, if_pos, if_neg (show ¬ (1 : Int) = 0 by omega), if_neg (show ¬ (1 : Int) = 3 by omega)]
      exact (dg hb ho hp).2.2.2
    · by_cases h3 : way = 3
      · subst h3
        unfold bk plB
        simp only [if_pos, if_neg h0, if_neg h1]
        rw [mx_mx hq.1]
        simp only [plR, plU, plQ, if_neg h0, if_neg h1]
        exact (dg hr hb hp).2.2.2
      · unfold bk plB
        simp only [if_neg h0, if_neg h1, if_neg h3]
        simp only [plR, plU, plQ, if_neg h0, if_neg h1]
        exact (dg hr hb hp).2.2.2
theorem pl_bk {way r b o P Q U m : Int} (hw : pw b m = true) (hP : 0 ≤ P ∧ P < r) (hQ : 0 ≤ Q ∧ Q < b) (hU : 0 ≤ U ∧ U < o) :
    (0 ≤ bk way r b o P Q U ∧ bk way r b o P Q U < r * b * o) ∧ plR way r b o (bk way r b o P Q U) = P ∧ plB way r b o (bk way r b o P Q U) = Q ∧ plU way r b o (bk way r b o P Q U) = U := by
  by_cases h0 : way = 0
  · subst h0
    simp only [bk, plB, plR, plU, plQ, if_pos, if_neg (show ¬ (0 : Int) = 3 by omega)]
    have := dg_of (d2 := P) hU hQ rfl
    exact ⟨dg_less hU hQ hP, this.2.2, this.2.1, this.1⟩
  · by_cases h1 : way = 1
    · subst h1
      simp only [bk, plB, plR, plU, plQ, if_pos, if_neg (show ¬ (1 : Int) = 0 by omega), if_neg (show ¬ (1 : Int) = 3 by omega)]
      have := dg_of (d2 := P) hQ hU rfl
      refine ⟨?_, this.2.2, this.1, this.2.1⟩
      rw [Int.mul_assoc r, Int.mul_comm b o, ← Int.mul_assoc]
      exact dg_less hQ hU hP
    · have e : r * b * o = o * b * r := by rw [Int.mul_assoc o, Int.mul_comm o, Int.mul_comm b r]
      by_cases h3 : way = 3
      · subst h3
        have hM := mx_lt (u := U) hw hQ
        have := dg_of (d2 := U) hP hM rfl
        have h4 : bk 3 r b o P Q U = (U * b + mx b Q U) * r + P := by simp only [bk, if_neg h0, if_neg h1, if_pos]
        rw [h4, e]
        refine ⟨dg_less hP hM hU, ?_⟩
        simp only [plB, plR, plU, plQ, if_neg h0, if_neg h1, if_pos]
        rw [this.1, this.2.1, this.2.2, mx_mx hQ.1]
        exact ⟨rfl, rfl, rfl⟩
      · have := dg_of (d2 := U) hP hQ rfl
        have h4 : bk way r b o P Q U = (U * b + Q) * r + P := by simp only [bk, if_neg h0, if_neg h1, if_neg h3]
        rw [h4, e]
        refine ⟨dg_less hP hQ hU, ?_⟩
        simp only [plB, plR, plU, plQ, if_neg h0, if_neg h1, if_neg h3]
        exact this

/-- a number of a page of a rank without the spares -/
def okp (r b o x : Int) : Prop := 0 ≤ x ∧ x / 16384 < r ∧ x / 1024 % 16 < b ∧ x % 1024 < o
/-- the page that is laid there -/
def bkn (way r b o x : Int) : Int := bk way r b o (x / 16384) (x / 1024 % 16) (x % 1024)
theorem pgn_ok {way r b o p : Int} (hr : pw r 8 = true) (hb : pw b 16 = true) (ho : pw o 1024 = true) (hp : 0 ≤ p) (hp2 : p < r * b * o) :
    okp r b o (pgn way r b o p) ∧ bkn way r b o (pgn way r b o p) = p ∧ pgn way r b o p / 16384 = plR way r b o p ∧ pgn way r b o p / 1024 % 16 = plB way r b o p ∧ pgn way r b o p % 1024 = plU way r b o p := by
  have r1 := Ge.pw_pos hr; have b1 := Ge.pw_pos hb; have o1 := Ge.pw_pos ho
  have h1 := plQ_in (way := way) r1.1 b1.1 o1.1 hp hp2
  have h2 := plB_in (way := way) hb r1.1 o1.1 hp hp2
  have e1 : pgn way r b o p / 16384 = plR way r b o p := by unfold pgn; omega
  have e2 : pgn way r b o p / 1024 % 16 = plB way r b o p := by unfold pgn; omega
  have e3 : pgn way r b o p % 1024 = plU way r b o p := by unfold pgn; omega
  refine ⟨⟨by unfold pgn; omega, by omega, by omega, by omega⟩, ?_, e1, e2, e3⟩
  unfold bkn
  rw [e1, e2, e3]
  exact bk_pl r1.1 b1.1 o1.1 hp hp2
theorem bkn_ok {way r b o x : Int} (hb : pw b 16 = true) (h : okp r b o x) :
    (0 ≤ bkn way r b o x ∧ bkn way r b o x < r * b * o) ∧ pgn way r b o (bkn way r b o x) = x := by
  obtain ⟨h0, h1, h2, h3⟩ := h
  have := pl_bk (way := way) (o := o) (P := x / 16384) (Q := x / 1024 % 16) (U := x % 1024) hb ⟨by omega, h1⟩ ⟨by omega, h2⟩ ⟨by omega, h3⟩
  refine ⟨this.1, ?_⟩
  unfold pgn
  unfold bkn
  rw [this.2.1, this.2.2.1, this.2.2.2]
  omega
end In
end Go.Proofs.Ytalbloeaojpbgaa
