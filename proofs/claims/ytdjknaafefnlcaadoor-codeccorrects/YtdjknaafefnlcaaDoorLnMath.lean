/-
  Layer 6's mathematics: lines merged, words of bytes.
-/
import Derived.RowKit3
namespace Go.Proofs.YtdjknaafefnlcaaDoor.Ln

/-- two lines merged by a mask -/
def mrg (F G : Nat → Int) (m i : Nat) : Int := if m / 2 ^ i % 2 = 1 then G i else F i
/-- merged below k alone -/
def mrgK (F G : Nat → Int) (m k i : Nat) : Int := if i < k then mrg F G m i else F i
theorem mrgK_zero (F G : Nat → Int) (m : Nat) : mrgK F G m 0 = F := by
  funext i; unfold mrgK; rw [if_neg (by omega)]
theorem mrgK_skip (F G : Nat → Int) (m k : Nat) (h : ¬ m / 2 ^ k % 2 = 1) (i : Nat) : mrgK F G m k i = mrgK F G m (k + 1) i := by
  unfold mrgK
  by_cases h1 : i < k
  · rw [if_pos h1, if_pos (by omega)]
  · rw [if_neg h1]
    by_cases h2 : i = k
    · subst h2
      rw [if_pos (by omega)]; unfold mrg; rw [if_neg h]
    · rw [if_neg (by omega)]
theorem mrgK_take (F G : Nat → Int) (m k : Nat) (h : m / 2 ^ k % 2 = 1) (i : Nat) : (if i = k then G k else mrgK F G m k i) = mrgK F G m (k + 1) i := by
  unfold mrgK
  by_cases h2 : i = k
  · subst h2
    rw [if_pos rfl, if_pos (by omega)]; unfold mrg; rw [if_pos h]
  · rw [if_neg h2]
    by_cases h1 : i < k
    · rw [if_pos h1, if_pos (by omega)]
    · rw [if_neg h1, if_neg (by omega)]
theorem mrgK_all (F G : Nat → Int) (m i : Nat) (h : i < 64) : mrgK F G m 64 i = mrg F G m i := by
  unfold mrgK; rw [if_pos h]

theorem bt_iff (m i : Nat) : m / 2 ^ i % 2 = 1 ↔ m.testBit i = true := by
  rw [Nat.testBit_eq_decide_div_mod_eq]; simp
theorem mrg_bit (F G : Nat → Int) (m i : Nat) : mrg F G m i = if m.testBit i = true then G i else F i := by
  unfold mrg
  by_cases h : m / 2 ^ i % 2 = 1
  · rw [if_pos h, if_pos ((bt_iff m i).1 h)]
  · rw [if_neg h, if_neg (fun e => h ((bt_iff m i).2 e))]
theorem mrg_not (F G : Nat → Int) (m i : Nat) (hm : m < 18446744073709551616) (hi : i < 64) : mrg (mrg F G m) G (18446744073709551615 - m) i = G i := by
  rw [mrg_bit, mrg_bit, show 18446744073709551615 - m = 2 ^ 64 - (m + 1) from by omega, Nat.testBit_two_pow_sub_succ hm]
  cases m.testBit i <;> simp [hi]
theorem mrg_same (F G : Nat → Int) (m i : Nat) : mrg (mrg F G m) F m i = F i := by
  rw [mrg_bit, mrg_bit]
  cases m.testBit i <;> simp
theorem mrg_or (F G : Nat → Int) (x y i : Nat) : mrg (mrg F G x) G y i = mrg F G (x ||| y) i := by
  rw [mrg_bit, mrg_bit, mrg_bit, Nat.testBit_or]
  cases x.testBit i <;> cases y.testBit i <;> simp
theorem mrg_over (F G H : Nat → Int) (x i : Nat) : mrg (mrg F G x) H x i = mrg F H x i := by
  rw [mrg_bit, mrg_bit, mrg_bit]
  cases x.testBit i <;> simp
theorem mrg_apart (F G H : Nat → Int) (x z i : Nat) (h : z.testBit i = true → x.testBit i = false) : mrg (mrg F G x) H z i = mrg (mrg F H z) G x i := by
  rw [mrg_bit, mrg_bit, mrg_bit, mrg_bit]
  cases h1 : z.testBit i
  · cases x.testBit i <;> simp
  · rw [h h1]; simp
theorem mrg_none (F G : Nat → Int) (i : Nat) : mrg F G 0 i = F i := by
  rw [mrg_bit]; simp
theorem mrg_all (F G : Nat → Int) (i : Nat) (h : i < 64) : mrg F G 18446744073709551615 i = G i := by
  rw [mrg_bit, show 18446744073709551615 = 2 ^ 64 - 1 from rfl, Nat.testBit_two_pow_sub_one]; simp [h]
/-- n digits of base 256, from the place k on -/
def val (f : Nat → Nat) : Nat → Nat → Nat
  | 0, _ => 0
  | n + 1, k => f k + 256 * val f n (k + 1)
theorem val_top (f : Nat → Nat) : ∀ n k, val f (n + 1) k = val f n k + f (k + n) * 256 ^ n
  | 0, k => by simp [val]
  | n + 1, k => by
    rw [val, val_top f n (k + 1), val, Nat.mul_add, show k + (n + 1) = k + 1 + n by omega, Nat.pow_succ]
    have : 256 * (f (k + 1 + n) * 256 ^ n) = f (k + 1 + n) * (256 ^ n * 256) := by
      rw [Nat.mul_comm 256, Nat.mul_assoc]
    omega
theorem val_lt (f : Nat → Nat) (n : Nat) : ∀ k, (∀ j, k ≤ j → j < k + n → f j < 256) → val f n k < 256 ^ n := by
  induction n with
  | zero => intro k _; simp [val]
  | succ n ih =>
    intro k h
    have h1 := ih (k + 1) (fun j a b => h j (by omega) (by omega))
    have h2 := h k (by omega) (by omega)
    rw [val, Nat.pow_succ]
    omega
theorem val_div (f : Nat → Nat) (n k : Nat) (h : f k < 256) : val f (n + 1) k / 256 = val f n (k + 1) := by
  rw [val]; omega
theorem val_mod (f : Nat → Nat) (n k : Nat) (h : f k < 256) : val f (n + 1) k % 256 = f k := by
  rw [val]; omega
theorem val_digit (f : Nat → Nat) : ∀ (i n k : Nat), (∀ j, k ≤ j → j < k + n → f j < 256) → i < n → val f n k / 256 ^ i % 256 = f (k + i)
  | 0, n, k, h, hi => by
    obtain ⟨m, rfl⟩ : ∃ m, n = m + 1 := ⟨n - 1, by omega⟩
    rw [Nat.pow_zero, Nat.div_one, val_mod f m k (h k (by omega) (by omega)), Nat.add_zero]
  | i + 1, n, k, h, hi => by
    obtain ⟨m, rfl⟩ : ∃ m, n = m + 1 := ⟨n - 1, by omega⟩
    rw [Nat.pow_succ, Nat.mul_comm, ← Nat.div_div_eq_div_mul, val_div f m k (h k (by omega) (by omega)), val_digit f i m (k + 1) (fun j a b => h j (by omega) (by omega)) (by omega), show k + 1 + i = k + (i + 1) by omega]
theorem val_congr (f g : Nat → Nat) (n : Nat) : ∀ k, (∀ j, k ≤ j → j < k + n → f j = g j) → val f n k = val g n k := by
  induction n with
  | zero => intro k _; rfl
  | succ n ih => intro k h; rw [val, val, h k (by omega) (by omega), ih (k + 1) (fun j a b => h j (by omega) (by omega))]
theorem or_top (x b i : Nat) (hx : x < 256 ^ i) : x ||| b * 256 ^ i = x + b * 256 ^ i := by
  have e : (256 : Nat) ^ i = 2 ^ (8 * i) := by rw [Nat.pow_mul]
  rw [e] at hx ⊢
  rw [Nat.or_comm, Nat.mul_comm, ← Nat.two_pow_add_eq_or_of_lt hx, Nat.add_comm]
/-- the word k of a line -/
def wrd (F : Nat → Int) (k : Nat) : Nat := val (fun i => (F i).toNat) 8 (8 * k)
theorem wrd_lt (F : Nat → Int) (k : Nat) (h : ∀ i, i < 64 → 0 ≤ F i ∧ F i < 256) (hk : k < 8) : wrd F k < 18446744073709551616 :=
  val_lt _ 8 (8 * k) fun j _ hj => by have := h j (by omega); omega
theorem wrd_byte (F : Nat → Int) (k i : Nat) (h : ∀ i, i < 64 → 0 ≤ F i ∧ F i < 256) (hk : k < 8) (hi : i < 8) : ((wrd F k / 256 ^ i % 256 : Nat) : Int) = F (8 * k + i) := by
  unfold wrd
  rw [val_digit _ i 8 (8 * k) (fun j _ hj => by have := h j (by omega); show (F j).toNat < 256; omega) hi]
  have := h (8 * k + i) (by omega)
  show ((F (8 * k + i)).toNat : Int) = _
  omega
/-- a digit's sign -/
def hexd (n : Nat) : Nat := if n < 10 then 48 + n else 87 + n
/-- the sign at the place j of a line in digits -/
def hxn (F : Nat → Int) (j : Nat) : Nat := hexd (if j % 2 = 0 then (F (j / 2)).toNat / 16 else (F (j / 2)).toNat % 16)
/-- n signs of a line in digits -/
def hxl (F : Nat → Int) (n : Nat) : List UInt8 := (List.range n).map fun j => UInt8.ofNat (hxn F j)
theorem hexd_lt (n : Nat) (h : n < 16) : hexd n < 256 := by unfold hexd; split <;> omega
theorem hxl_len (F : Nat → Int) (n : Nat) : (hxl F n).length = n := by simp [hxl]
theorem hxl_two (F : Nat → Int) (k : Nat) : hxl F (2 * (k + 1)) = hxl F (2 * k) ++ [UInt8.ofNat (hexd ((F k).toNat / 16)), UInt8.ofNat (hexd ((F k).toNat % 16))] := by
  unfold hxl
  rw [show 2 * (k + 1) = 2 * k + 1 + 1 by omega, List.range_succ, List.range_succ]
  simp only [List.map_append, List.map_cons, List.map_nil, List.append_assoc, List.cons_append, List.nil_append]
  have h1 : hxn F (2 * k) = hexd ((F k).toNat / 16) := by unfold hxn; rw [if_pos (by omega), show 2 * k / 2 = k by omega]
  have h2 : hxn F (2 * k + 1) = hexd ((F k).toNat % 16) := by unfold hxn; rw [if_neg (by omega), show (2 * k + 1) / 2 = k by omega]
  rw [h1, h2]
end Go.Proofs.YtdjknaafefnlcaaDoor.Ln
