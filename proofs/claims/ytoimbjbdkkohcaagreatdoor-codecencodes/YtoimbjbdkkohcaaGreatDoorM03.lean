/-
  Texts of one family, one behind another: LnMath, RwMath, CoMath, CoM2, GfMath.
-/
import Derived.RowKit3
import Derived.Test.YtoimbjbdkkohcaaGreatDoorM01
import Derived.Test.YtoimbjbdkkohcaaGreatDoorM02
import Derived.Laws.BitsAllLaws

/-
  Layer 6's mathematics: lines merged, words of bytes.
-/
namespace Go.Proofs.YtoimbjbdkkohcaaGreatDoor.Ln

/-- two lines merged by a mask -/
def mrg (F G : Nat → Int) (m i : Nat) : Int := if m / 2 ^ i % 2 = 1 then G i else F i
/-- merged below k alone -/
def mrgK (F G : Nat → Int) (m k i : Nat) : Int := if i < k then mrg F G m i else F i
theorem mrgK_zero (F G : Nat → Int) (m : Nat) : mrgK F G m 0 = F := by
  funext i; unfold mrgK; rw [if_neg (by omega)]
theorem mrgK_skip (F G : Nat → Int) (m k : Nat) (h : ¬ m / 2 ^ k % 2 = 1) (i : Nat) : mrgK F G m k i = mrgK F G m (k + 1) i := by
  unfold mrgK
  by_cases h1 : i < k
  · rw [if_pos h1, if_pos (by omega)]
  · rw [if_neg h1]
    by_cases h2 : i = k
    · subst h2
      rw [if_pos (by omega)]; unfold mrg; rw [if_neg h]
    · rw [if_neg (by omega)]
theorem mrgK_take (F G : Nat → Int) (m k : Nat) (h : m / 2 ^ k % 2 = 1) (i : Nat) : (if i = k then G k else mrgK F G m k i) = mrgK F G m (k + 1) i := by
  unfold mrgK
  by_cases h2 : i = k
  · subst h2
    rw [if_pos rfl, if_pos (by omega)]; unfold mrg; rw [if_pos h]
  · rw [if_neg h2]
    by_cases h1 : i < k
    · rw [if_pos h1, if_pos (by omega)]
    · rw [if_neg h1, if_neg (by omega)]
theorem mrgK_all (F G : Nat → Int) (m i : Nat) (h : i < 64) : mrgK F G m 64 i = mrg F G m i := by
  unfold mrgK; rw [if_pos h]

theorem bt_iff (m i : Nat) : m / 2 ^ i % 2 = 1 ↔ m.testBit i = true := by
  rw [Nat.testBit_eq_decide_div_mod_eq]; simp
theorem mrg_bit (F G : Nat → Int) (m i : Nat) : mrg F G m i = if m.testBit i = true then G i else F i := by
  unfold mrg
  by_cases h : m / 2 ^ i % 2 = 1
  · rw [if_pos h, if_pos ((bt_iff m i).1 h)]
  · rw [if_neg h, if_neg (fun e => h ((bt_iff m i).2 e))]
theorem mrg_not (F G : Nat → Int) (m i : Nat) (hm : m < 18446744073709551616) (hi : i < 64) : mrg (mrg F G m) G (18446744073709551615 - m) i = G i := by
  rw [mrg_bit, mrg_bit, show 18446744073709551615 - m = 2 ^ 64 - (m + 1) from by omega, Nat.testBit_two_pow_sub_succ hm]
  cases m.testBit i <;> simp [hi]
theorem mrg_same (F G : Nat → Int) (m i : Nat) : mrg (mrg F G m) F m i = F i := by
  rw [mrg_bit, mrg_bit]
  cases m.testBit i <;> simp
theorem mrg_or (F G : Nat → Int) (x y i : Nat) : mrg (mrg F G x) G y i = mrg F G (x ||| y) i := by
  rw [mrg_bit, mrg_bit, mrg_bit, Nat.testBit_or]
  cases x.testBit i <;> cases y.testBit i <;> simp
theorem mrg_over (F G H : Nat → Int) (x i : Nat) : mrg (mrg F G x) H x i = mrg F H x i := by
  rw [mrg_bit, mrg_bit, mrg_bit]
  cases x.testBit i <;> simp
theorem mrg_apart (F G H : Nat → Int) (x z i : Nat) (h : z.testBit i = true → x.testBit i = false) : mrg (mrg F G x) H z i = mrg (mrg F H z) G x i := by
  rw [mrg_bit, mrg_bit, mrg_bit, mrg_bit]
  cases h1 : z.testBit i
  · cases x.testBit i <;> simp
  · rw [h h1]; simp
theorem mrg_none (F G : Nat → Int) (i : Nat) : mrg F G 0 i = F i := by
  rw [mrg_bit]; simp
theorem mrg_all (F G : Nat → Int) (i : Nat) (h : i < 64) : mrg F G 18446744073709551615 i = G i := by
  rw [mrg_bit, show 18446744073709551615 = 2 ^ 64 - 1 from rfl, Nat.testBit_two_pow_sub_one]; simp [h]
/-- n digits of base 256, from the place k on -/
def val (f : Nat → Nat) : Nat → Nat → Nat
  | 0, _ => 0
  | n + 1, k => f k + 256 * val f n (k + 1)
theorem val_top (f : Nat → Nat) : ∀ n k, val f (n + 1) k = val f n k + f (k + n) * 256 ^ n
  | 0, k => by simp [val]
  | n + 1, k => by
    rw [val, val_top f n (k + 1), val, Nat.mul_add, show k + (n + 1) = k + 1 + n by omega, Nat.pow_succ]
    have : 256 * (f (k + 1 + n) * 256 ^ n) = f (k + 1 + n) * (256 ^ n * 256) := by
      rw [Nat.mul_comm 256, Nat.mul_assoc]
    omega
theorem val_lt (f : Nat → Nat) (n : Nat) : ∀ k, (∀ j, k ≤ j → j < k + n → f j < 256) → val f n k < 256 ^ n := by
  induction n with
  | zero => intro k _; simp [val]
  | succ n ih =>
    intro k h
    have h1 := ih (k + 1) (fun j a b => h j (by omega) (by omega))
    have h2 := h k (by omega) (by omega)
    rw [val, Nat.pow_succ]
    omega
theorem val_div (f : Nat → Nat) (n k : Nat) (h : f k < 256) : val f (n + 1) k / 256 = val f n (k + 1) := by
  rw [val]; omega
theorem val_mod (f : Nat → Nat) (n k : Nat) (h : f k < 256) : val f (n + 1) k % 256 = f k := by
  rw [val]; omega
theorem val_digit (f : Nat → Nat) : ∀ (i n k : Nat), (∀ j, k ≤ j → j < k + n → f j < 256) → i < n → val f n k / 256 ^ i % 256 = f (k + i)
  | 0, n, k, h, hi => by
    obtain ⟨m, rfl⟩ : ∃ m, n = m + 1 := ⟨n - 1, by omega⟩
    rw [Nat.pow_zero, Nat.div_one, val_mod f m k (h k (by omega) (by omega)), Nat.add_zero]
  | i + 1, n, k, h, hi => by
    obtain ⟨m, rfl⟩ : ∃ m, n = m + 1 := ⟨n - 1, by omega⟩
    rw [Nat.pow_succ, Nat.mul_comm, ← Nat.div_div_eq_div_mul, val_div f m k (h k (by omega) (by omega)), val_digit f i m (k + 1) (fun j a b => h j (by omega) (by omega)) (by omega), show k + 1 + i = k + (i + 1) by omega]
theorem val_congr (f g : Nat → Nat) (n : Nat) : ∀ k, (∀ j, k ≤ j → j < k + n → f j = g j) → val f n k = val g n k := by
  induction n with
  | zero => intro k _; rfl
  | succ n ih => intro k h; rw [val, val, h k (by omega) (by omega), ih (k + 1) (fun j a b => h j (by omega) (by omega))]
theorem or_top (x b i : Nat) (hx : x < 256 ^ i) : x ||| b * 256 ^ i = x + b * 256 ^ i := by
  have e : (256 : Nat) ^ i = 2 ^ (8 * i) := by rw [Nat.pow_mul]
  rw [e] at hx ⊢
  rw [Nat.or_comm, Nat.mul_comm, ← Nat.two_pow_add_eq_or_of_lt hx, Nat.add_comm]
/-- the word k of a line -/
def wrd (F : Nat → Int) (k : Nat) : Nat := val (fun i => (F i).toNat) 8 (8 * k)
theorem wrd_lt (F : Nat → Int) (k : Nat) (h : ∀ i, i < 64 → 0 ≤ F i ∧ F i < 256) (hk : k < 8) : wrd F k < 18446744073709551616 :=
  val_lt _ 8 (8 * k) fun j _ hj => by have := h j (by omega); omega
theorem wrd_byte (F : Nat → Int) (k i : Nat) (h : ∀ i, i < 64 → 0 ≤ F i ∧ F i < 256) (hk : k < 8) (hi : i < 8) : ((wrd F k / 256 ^ i % 256 : Nat) : Int) = F (8 * k + i) := by
  unfold wrd
  rw [val_digit _ i 8 (8 * k) (fun j _ hj => by have := h j (by omega); show (F j).toNat < 256; omega) hi]
  have := h (8 * k + i) (by omega)
  show ((F (8 * k + i)).toNat : Int) = _
  omega
/-- a digit's sign -/
def hexd (n : Nat) : Nat := if n < 10 then 48 + n else 87 + n
/-- the sign at the place j of a line in digits -/
def hxn (F : Nat → Int) (j : Nat) : Nat := hexd (if j % 2 = 0 then (F (j / 2)).toNat / 16 else (F (j / 2)).toNat % 16)
/-- n signs of a line in digits -/
def hxl (F : Nat → Int) (n : Nat) : List UInt8 := (List.range n).map fun j => UInt8.ofNat (hxn F j)
theorem hexd_lt (n : Nat) (h : n < 16) : hexd n < 256 := by unfold hexd; split <;> omega
theorem hxl_len (F : Nat → Int) (n : Nat) : (hxl F n).length = n := by simp [hxl]
theorem hxl_two (F : Nat → Int) (k : Nat) : hxl F (2 * (k + 1)) = hxl F (2 * k) ++ [UInt8.ofNat (hexd ((F k).toNat / 16)), UInt8.ofNat (hexd ((F k).toNat % 16))] := by
  unfold hxl
  rw [show 2 * (k + 1) = 2 * k + 1 + 1 by omega, List.range_succ, List.range_succ]
  simp only [List.map_append, List.map_cons, List.map_nil, List.append_assoc, List.cons_append, List.nil_append]
  have h1 : hxn F (2 * k) = hexd ((F k).toNat / 16) := by unfold hxn; rw [if_pos (by omega), show 2 * k / 2 = k by omega]
  have h2 : hxn F (2 * k + 1) = hexd ((F k).toNat % 16) := by unfold hxn; rw [if_neg (by omega), show (2 * k + 1) / 2 = k by omega]
  rw [h1, h2]
end Go.Proofs.YtoimbjbdkkohcaaGreatDoor.Ln

/-
  Layer 9's mathematics: how much two are unlike, word by word; bits turned and set.
-/
namespace Go.Proofs.YtoimbjbdkkohcaaGreatDoor.Rw
open Go Go.RowKit Bm

theorem wtK_nil (k x : Nat) (h : wtK k x = 0) (hx : x < 2 ^ k) : x = 0 := by
  induction k generalizing x with
  | zero => simpa using hx
  | succ k ih =>
    simp only [wtK] at h
    have := ih (x / 2) (by omega) (by rw [Nat.pow_succ] at hx; omega)
    omega
theorem wt_xor_le (a b : Nat) : wt (a ^^^ b) ≤ wt a + wt b := by
  have := wtK_xor 64 a b
  unfold wt; omega
theorem wt8 (x : Nat) (h : x < 256) : wt x ≤ 8 := by
  rw [← wtK_wt 8 x (by decide) h]; exact wtK_le 8 x

/-- how unlike two bytes are -/
def dl (m x y : Int) : Nat := if m = 1 then wt (x.toNat ^^^ y.toNat) else if x = y then 0 else 1
theorem dl_self (m x : Int) : dl m x x = 0 := by
  unfold dl
  split
  · rw [Nat.xor_self]; exact wt_zero
  · simp
theorem dl_symm (m x y : Int) : dl m x y = dl m y x := by
  unfold dl
  by_cases h : m = 1
  · rw [if_pos h, if_pos h, Nat.xor_comm]
  · rw [if_neg h, if_neg h]
    by_cases e : x = y
    · rw [if_pos e, if_pos e.symm]
    · rw [if_neg e, if_neg (fun e' => e e'.symm)]
theorem dl_tri (m x y z : Int) : dl m x z ≤ dl m x y + dl m y z := by
  unfold dl
  by_cases h : m = 1
  · rw [if_pos h, if_pos h, if_pos h]
    have e : x.toNat ^^^ z.toNat = (x.toNat ^^^ y.toNat) ^^^ (y.toNat ^^^ z.toNat) := by
      rw [Nat.xor_assoc, ← Nat.xor_assoc y.toNat, Nat.xor_self, Nat.zero_xor]
    rw [e]; exact wt_xor_le _ _
  · rw [if_neg h, if_neg h, if_neg h]
    by_cases e : x = z
    · rw [if_pos e]; omega
    · rw [if_neg e]
      by_cases e1 : x = y
      · rw [if_neg (fun e2 => e (e1.trans e2))]; omega
      · rw [if_neg e1]; omega
theorem dl_zero (m x y : Int) (hx : 0 ≤ x ∧ x < 256) (hy : 0 ≤ y ∧ y < 256) (h : dl m x y = 0) : x = y := by
  unfold dl at h
  split at h
  · have h2 : x.toNat ^^^ y.toNat < 2 ^ 8 := Nat.xor_lt_two_pow (by omega) (by omega)
    rw [← wtK_wt 8 _ (by decide) h2] at h
    have := wtK_nil 8 _ h h2
    have e : x.toNat = y.toNat := by
      have e2 : x.toNat ^^^ y.toNat ^^^ y.toNat = y.toNat := by rw [this, Nat.zero_xor]
      rwa [Nat.xor_assoc, Nat.xor_self, Nat.xor_zero] at e2
    omega
  · split at h
    · assumption
    · omega
theorem dl_le (m x y : Int) (hx : 0 ≤ x ∧ x < 256) (hy : 0 ≤ y ∧ y < 256) : dl m x y ≤ 8 ∧ (m ≠ 1 → dl m x y ≤ 1) := by
  unfold dl
  split
  · exact ⟨wt8 _ (Nat.xor_lt_two_pow (n := 8) (by omega) (by omega)), fun h => absurd ‹m = 1› h⟩
  · split <;> exact ⟨by omega, fun _ => by omega⟩

/-- the same of n bytes from the place o on -/
def sm (m : Int) (F G : Nat → Int) (o : Nat) : Nat → Nat
  | 0 => 0
  | j + 1 => sm m F G o j + dl m (F (o + j)) (G (o + j))
theorem sm_symm (m : Int) (F G : Nat → Int) (o n : Nat) : sm m F G o n = sm m G F o n := by
  induction n with
  | zero => rfl
  | succ n ih => rw [sm, sm, ih, dl_symm]
theorem sm_tri (m : Int) (F G H : Nat → Int) (o n : Nat) : sm m F H o n ≤ sm m F G o n + sm m G H o n := by
  induction n with
  | zero => exact Nat.le_refl _
  | succ n ih =>
    have := dl_tri m (F (o + n)) (G (o + n)) (H (o + n))
    rw [sm, sm, sm]; omega
theorem sm_zero (m : Int) (F G : Nat → Int) (o n : Nat) (hF : ∀ i, i < n → 0 ≤ F (o + i) ∧ F (o + i) < 256) (hG : ∀ i, i < n → 0 ≤ G (o + i) ∧ G (o + i) < 256) (h : sm m F G o n = 0) : ∀ i, i < n → F (o + i) = G (o + i) := by
  induction n with
  | zero => intro i hi; omega
  | succ n ih =>
    rw [sm] at h
    intro i hi
    by_cases e : i = n
    · subst e; exact dl_zero m _ _ (hF _ hi) (hG _ hi) (by omega)
    · exact ih (fun j hj => hF j (by omega)) (fun j hj => hG j (by omega)) (by omega) i (by omega)
theorem sm_same (m : Int) (F G : Nat → Int) (o n : Nat) (h : ∀ i, i < n → F (o + i) = G (o + i)) : sm m F G o n = 0 := by
  induction n with
  | zero => rfl
  | succ n ih => rw [sm, ih (fun j hj => h j (by omega)), h n (by omega), dl_self]
/-- where one alone is unlike -/
theorem sm_one (m : Int) (F G : Nat → Int) (o n p : Nat) (hp : p < n) (h : ∀ i, i < n → i ≠ p → F (o + i) = G (o + i)) : sm m F G o n = dl m (F (o + p)) (G (o + p)) := by
  induction n with
  | zero => omega
  | succ n ih =>
    rw [sm]
    by_cases e : p = n
    · subst e
      rw [sm_same m F G o p fun i hi => h i (by omega) (by omega)]; omega
    · rw [ih (by omega) fun i hi => h i (by omega), h n (by omega) (fun x => e x.symm), dl_self]; omega
theorem sm_le (m : Int) (F G : Nat → Int) (o n : Nat) (hF : ∀ i, i < n → 0 ≤ F (o + i) ∧ F (o + i) < 256) (hG : ∀ i, i < n → 0 ≤ G (o + i) ∧ G (o + i) < 256) : sm m F G o n ≤ 8 * n := by
  induction n with
  | zero => exact Nat.le_refl _
  | succ n ih =>
    have h1 := ih (fun j hj => hF j (by omega)) (fun j hj => hG j (by omega))
    have h2 := (dl_le m _ _ (hF n (by omega)) (hG n (by omega))).1
    rw [sm]; omega
theorem sm_congr (m : Int) (F G F' G' : Nat → Int) (o o' n : Nat) (h : ∀ i, i < n → F (o + i) = F' (o' + i) ∧ G (o + i) = G' (o' + i)) : sm m F G o n = sm m F' G' o' n := by
  induction n with
  | zero => rfl
  | succ n ih => rw [sm, sm, ih fun i hi => h i (by omega), (h n (by omega)).1, (h n (by omega)).2]

/-- of the first k words, each of n bytes, the most -/
def mx (m : Int) (F G : Nat → Int) (n : Nat) : Nat → Nat
  | 0 => 0
  | w + 1 => max (mx m F G n w) (sm m F G (n * w) n)
theorem mx_symm (m : Int) (F G : Nat → Int) (n k : Nat) : mx m F G n k = mx m G F n k := by
  induction k with
  | zero => rfl
  | succ k ih => rw [mx, mx, ih, sm_symm]
theorem mx_tri (m : Int) (F G H : Nat → Int) (n k : Nat) : mx m F H n k ≤ mx m F G n k + mx m G H n k := by
  induction k with
  | zero => exact Nat.le_refl _
  | succ k ih =>
    have := sm_tri m F G H (n * k) n
    rw [mx, mx, mx]; omega
theorem mx_ge (m : Int) (F G : Nat → Int) (n k w : Nat) (h : w < k) : sm m F G (n * w) n ≤ mx m F G n k := by
  induction k with
  | zero => omega
  | succ k ih =>
    rw [mx]
    by_cases e : w = k
    · subst e; omega
    · have := ih (by omega); omega
theorem mx_le (m : Int) (F G : Nat → Int) (n k c : Nat) (h : ∀ w, w < k → sm m F G (n * w) n ≤ c) : mx m F G n k ≤ c := by
  induction k with
  | zero => exact Nat.zero_le _
  | succ k ih =>
    have h1 := ih fun w hw => h w (by omega)
    have h2 := h k (by omega)
    rw [mx]; omega
theorem idx_lt (n k w i : Nat) (hw : w < k) (hi : i < n) : n * w + i < n * k := by
  have : n * (w + 1) ≤ n * k := Nat.mul_le_mul_left n hw
  rw [Nat.mul_succ] at this; omega
theorem mx_bound (m : Int) (F G : Nat → Int) (n k : Nat) (hF : ∀ i, i < n * k → 0 ≤ F i ∧ F i < 256) (hG : ∀ i, i < n * k → 0 ≤ G i ∧ G i < 256) : mx m F G n k ≤ 8 * n :=
  mx_le m F G n k _ fun w hw => sm_le m F G _ n (fun i hi => hF _ (idx_lt n k w i hw hi)) (fun i hi => hG _ (idx_lt n k w i hw hi))
theorem mx_zero (m : Int) (F G : Nat → Int) (n k : Nat) (hn : 0 < n) (hF : ∀ i, i < n * k → 0 ≤ F i ∧ F i < 256) (hG : ∀ i, i < n * k → 0 ≤ G i ∧ G i < 256) : mx m F G n k = 0 ↔ ∀ i, i < n * k → F i = G i := by
  constructor
  · intro h i hi
    have hw : i / n < k := Nat.div_lt_of_lt_mul hi
    have h1 := mx_ge m F G n k (i / n) hw
    have h2 := sm_zero m F G (n * (i / n)) n (fun j hj => hF _ (idx_lt n k _ j hw hj)) (fun j hj => hG _ (idx_lt n k _ j hw hj)) (by omega) (i % n) (Nat.mod_lt _ hn)
    rwa [Nat.div_add_mod] at h2
  · intro h
    have := mx_le m F G n k 0 fun w hw => Nat.le_of_eq (sm_same m F G _ n fun i hi => h _ (idx_lt n k w i hw hi))
    omega
/-- where one byte alone is unlike -/
theorem mx_one (m : Int) (F G : Nat → Int) (n k p : Nat) (hn : 0 < n) (hp : p < n * k) (h : ∀ i, i < n * k → i ≠ p → F i = G i) : mx m F G n k = dl m (F p) (G p) := by
  have hw : p / n < k := Nat.div_lt_of_lt_mul hp
  have hd := Nat.div_add_mod p n
  have hs : sm m F G (n * (p / n)) n = dl m (F p) (G p) := by
    rw [sm_one m F G _ n (p % n) (Nat.mod_lt _ hn) fun i hi hne => h _ (idx_lt n k _ i hw hi) (by omega), hd]
  refine Nat.le_antisymm (mx_le m F G n k _ fun w hw' => ?_) (hs ▸ mx_ge m F G n k _ hw)
  by_cases e : w = p / n
  · subst e; omega
  · rw [sm_same m F G _ n fun i hi => h _ (idx_lt n k w i hw' hi) fun e' => e (by rw [← e', Nat.mul_add_div hn, Nat.div_eq_of_lt hi]; rfl)]
    exact Nat.zero_le _
/-- where in each word one byte at most is unlike -/
theorem mx_col (m : Int) (F G : Nat → Int) (n k p c : Nat) (hp : p < n) (h : ∀ i, i < n * k → i % n ≠ p → F i = G i) (hc : ∀ i, i < n * k → dl m (F i) (G i) ≤ c) : mx m F G n k ≤ c := by
  refine mx_le m F G n k _ fun w hw => ?_
  rw [sm_one m F G _ n p hp fun i hi hne => h _ (idx_lt n k w i hw hi) (by rw [Nat.mul_add_mod, Nat.mod_eq_of_lt hi]; exact hne)]
  exact hc _ (idx_lt n k w p hw hp)

/-! ### bits set and turned -/
/-- a byte with the bit r as v, 0 or 1 -/
def fc (x r v : Nat) : Nat := (x - (if x / 2 ^ r % 2 = 1 then 2 ^ r else 0)) + (if v = 1 then 2 ^ r else 0)
theorem fc_flip : ∀ x < 256, ∀ r < 8, x ^^^ 2 ^ r = fc x r (1 - x / 2 ^ r % 2) := by decide +kernel
theorem fc_stay : ∀ x < 256, ∀ r < 8, x = fc x r (x / 2 ^ r % 2) := by decide +kernel
theorem flip_wt : ∀ x < 256, ∀ r < 8, wtK 8 ((x ^^^ 2 ^ r) ^^^ x) = 1 ∧ (x ^^^ 2 ^ r) ≠ x ∧ (x ^^^ 2 ^ r) < 256 ∧ ((x ^^^ 2 ^ r) ^^^ x) < 256 := by decide +kernel
theorem dl_flip (m : Int) (x r : Nat) (hx : x < 256) (hr : r < 8) : dl m ((x ^^^ 2 ^ r : Nat) : Int) (x : Int) = 1 := by
  obtain ⟨h1, h2, h3, h4⟩ := flip_wt x hx r hr
  unfold dl
  split
  · rw [show ((x ^^^ 2 ^ r : Nat) : Int).toNat = x ^^^ 2 ^ r from rfl, show ((x : Int)).toNat = x from rfl, ← wtK_wt 8 _ (by decide) h4]; exact h1
  · rw [if_neg (by omega)]
/-- all of a chip's bytes as v -/
def chp (n : Nat) (c : Int) (F : Nat → Int) (v : Int) (i : Nat) : Int := if 0 < n ∧ ((i % n : Nat) : Int) = c then v else F i
end Go.Proofs.YtoimbjbdkkohcaaGreatDoor.Rw

/-
  Layer 10's mathematics, mode 1: two words of 72 bits that are unlike in some bits; what a syndrome tells of them.
-/
namespace Go.Proofs.YtoimbjbdkkohcaaGreatDoor.Co
open Go Go.RowKit
open Bm (wt wtK)
open Hm (col xs ap syn kd pl)
open Ln (val wrd)

/-! ### which bits are set -/
/-- the bits of the lowest n that are set, the highest first -/
def bl (E : Nat) : Nat → List Nat
  | 0 => []
  | n + 1 => if E / 2 ^ n % 2 = 1 then n :: bl E n else bl E n
theorem bl_yes (E n : Nat) (h : E / 2 ^ n % 2 = 1) : bl E (n + 1) = n :: bl E n := by
  show (if _ then _ else _) = _
  rw [if_pos h]
theorem bl_no (E n : Nat) (h : ¬ E / 2 ^ n % 2 = 1) : bl E (n + 1) = bl E n := by
  show (if _ then _ else _) = _
  rw [if_neg h]
theorem bl_len (E n : Nat) : (bl E n).length = wtK n E := by
  induction n with
  | zero => rfl
  | succ n ih =>
    rw [Bm.wtK_succ_hi]
    by_cases h : E / 2 ^ n % 2 = 1
    · rw [bl_yes E n h, List.length_cons, ih, h]
    · rw [bl_no E n h, ih]; omega
theorem bl_lt (E n : Nat) : ∀ i ∈ bl E n, i < n ∧ E / 2 ^ i % 2 = 1 := by
  induction n with
  | zero =>
    intro i hi
    cases hi
  | succ n ih =>
    intro i hi
    by_cases h : E / 2 ^ n % 2 = 1
    · rw [bl_yes E n h] at hi
      rcases List.mem_cons.1 hi with rfl | hi
      · exact ⟨by omega, h⟩
      · exact ⟨by have := (ih i hi).1; omega, (ih i hi).2⟩
    · rw [bl_no E n h] at hi
      exact ⟨by have := (ih i hi).1; omega, (ih i hi).2⟩
theorem bl_nodup (E n : Nat) : (bl E n).Nodup := by
  induction n with
  | zero => exact List.nodup_nil
  | succ n ih =>
    by_cases h : E / 2 ^ n % 2 = 1
    · rw [bl_yes E n h]
      exact List.nodup_cons.2 ⟨fun hm => by have := (bl_lt E n n hm).1; omega, ih⟩
    · rw [bl_no E n h]; exact ih
/-- the exclusive or of columns -/
def cx : List Nat → Nat
  | [] => 0
  | i :: l => cx l ^^^ col i
theorem bl_cx (E n : Nat) : xs E n = cx (bl E n) := by
  induction n with
  | zero => rfl
  | succ n ih =>
    by_cases h : E / 2 ^ n % 2 = 1
    · rw [Hm.xs_yes E n h, bl_yes E n h, ih]; rfl
    · rw [Hm.xs_no E n h, bl_no E n h, ih]
/-- up to three bits -/
theorem bits_ways (E n : Nat) : (wtK n E = 0 ∧ xs E n = 0) ∨ (wtK n E = 1 ∧ ∃ i, i < n ∧ E / 2 ^ i % 2 = 1 ∧ xs E n = col i) ∨
    (wtK n E = 2 ∧ ∃ i j, i < n ∧ j < n ∧ i ≠ j ∧ xs E n = col i ^^^ col j) ∨
    (wtK n E = 3 ∧ ∃ i j l, i < n ∧ j < n ∧ l < n ∧ i ≠ j ∧ xs E n = (col i ^^^ col j) ^^^ col l) ∨ 4 ≤ wtK n E := by
  have hl := bl_len E n
  have hx := bl_cx E n
  have hm := bl_lt E n
  have hd := bl_nodup E n
  rcases he : bl E n with _ | ⟨i, _ | ⟨j, _ | ⟨l, _ | ⟨q, t⟩⟩⟩⟩ <;> rw [he] at hl hx hm hd
  · exact .inl ⟨hl.symm, hx⟩
  · refine .inr (.inl ⟨hl.symm, i, (hm i (by simp)).1, (hm i (by simp)).2, ?_⟩)
    rw [hx]; exact Nat.zero_xor _
  · refine .inr (.inr (.inl ⟨hl.symm, i, j, (hm i (by simp)).1, (hm j (by simp)).1, ?_, ?_⟩))
    · intro e; rw [e] at hd; simp at hd
    · rw [hx]
      show (0 ^^^ col j) ^^^ col i = _
      rw [Nat.zero_xor, Nat.xor_comm]
  · refine .inr (.inr (.inr (.inl ⟨hl.symm, i, j, l, (hm i (by simp)).1, (hm j (by simp)).1, (hm l (by simp)).1, ?_, ?_⟩)))
    · intro e; rw [e] at hd; simp at hd
    · rw [hx]
      show ((0 ^^^ col l) ^^^ col j) ^^^ col i = _
      rw [Nat.zero_xor, Nat.xor_assoc, Nat.xor_comm, Nat.xor_comm (col j)]
  · refine .inr (.inr (.inr (.inr ?_)))
    rw [← hl]; simp only [List.length_cons]; omega

/-! ### a word of 74 bits: 64 of data, 8 of checks, the address's, the poison's -/
/-- all of them -/
def em (e f da dp : Nat) : Nat := e + 18446744073709551616 * (f + 256 * (da + 2 * dp))
theorem xs_congr (d e n : Nat) (h : ∀ i, i < n → d / 2 ^ i % 2 = e / 2 ^ i % 2) : xs d n = xs e n := by
  induction n with
  | zero => rfl
  | succ n ih =>
    have hn := h n (by omega)
    by_cases hb : d / 2 ^ n % 2 = 1
    · rw [Hm.xs_yes d n hb, Hm.xs_yes e n (by omega), ih fun i hi => h i (by omega)]
    · rw [Hm.xs_no d n hb, Hm.xs_no e n (by omega), ih fun i hi => h i (by omega)]
theorem div_low (e m n i : Nat) (hi : i < n) : (e + 2 ^ n * m) / 2 ^ i % 2 = e / 2 ^ i % 2 := by
  obtain ⟨k, rfl⟩ : ∃ k, n = i + (k + 1) := ⟨n - i - 1, by omega⟩
  rw [Nat.pow_add, Nat.mul_assoc, Nat.add_mul_div_left _ _ (Nat.two_pow_pos i), Nat.pow_succ, Nat.mul_comm (2 ^ k) 2, Nat.mul_assoc]
  omega
theorem div_high (e m n : Nat) (he : e < 2 ^ n) (i : Nat) : (e + 2 ^ n * m) / 2 ^ (n + i) = m / 2 ^ i := by
  rw [Nat.pow_add, ← Nat.div_div_eq_div_mul, Nat.add_mul_div_left _ _ (Nat.two_pow_pos n), Nat.div_eq_of_lt he, Nat.zero_add]
theorem xs_top (f x : Nat) (hf : f < 256) : ((((((((x ^^^ (if f / 2 ^ 0 % 2 = 1 then col 64 else 0)) ^^^ (if f / 2 ^ 1 % 2 = 1 then col 65 else 0)) ^^^ (if f / 2 ^ 2 % 2 = 1 then col 66 else 0)) ^^^ (if f / 2 ^ 3 % 2 = 1 then col 67 else 0)) ^^^ (if f / 2 ^ 4 % 2 = 1 then col 68 else 0)) ^^^ (if f / 2 ^ 5 % 2 = 1 then col 69 else 0)) ^^^ (if f / 2 ^ 6 % 2 = 1 then col 70 else 0)) ^^^ (if f / 2 ^ 7 % 2 = 1 then col 71 else 0)) = x ^^^ f := by
  have h : ∀ f < 256, (((((((if f / 2 ^ 0 % 2 = 1 then col 64 else 0) ^^^ (if f / 2 ^ 1 % 2 = 1 then col 65 else 0)) ^^^ (if f / 2 ^ 2 % 2 = 1 then col 66 else 0)) ^^^ (if f / 2 ^ 3 % 2 = 1 then col 67 else 0)) ^^^ (if f / 2 ^ 4 % 2 = 1 then col 68 else 0)) ^^^ (if f / 2 ^ 5 % 2 = 1 then col 69 else 0)) ^^^ (if f / 2 ^ 6 % 2 = 1 then col 70 else 0)) ^^^ (if f / 2 ^ 7 % 2 = 1 then col 71 else 0) = f := by decide +kernel
  simp only [Nat.xor_assoc] at h ⊢
  rw [h f hf]
theorem xs_step (E n : Nat) : xs E (n + 1) = xs E n ^^^ (if E / 2 ^ n % 2 = 1 then col n else 0) := rfl
theorem xs_ten (E x f da dp : Nat) (hf : f < 256) (hda : da < 2) (hdp : dp < 2) (hlo : xs E 64 = x) (hhi : ∀ i, E / 2 ^ (64 + i) = (f + 2 ^ 8 * (da + 2 * dp)) / 2 ^ i) :
    xs E (64 + 10) = ((x ^^^ f) ^^^ (if da = 1 then col 72 else 0)) ^^^ (if dp = 1 then col 73 else 0) := by
  have hmid : ∀ i, i < 8 → E / 2 ^ (64 + i) % 2 = f / 2 ^ i % 2 := fun i hi => by rw [hhi, div_low f _ 8 i hi]
  have h8 : E / 2 ^ (64 + 8) % 2 = da := by rw [hhi 8]; omega
  have h9 : E / 2 ^ (64 + 9) % 2 = dp := by rw [hhi 9]; omega
  have t := xs_top f x hf
  rw [← hmid 0 (by omega), ← hmid 1 (by omega), ← hmid 2 (by omega), ← hmid 3 (by omega), ← hmid 4 (by omega), ← hmid 5 (by omega), ← hmid 6 (by omega), ← hmid 7 (by omega), ← hlo] at t
  have e1 : xs E (64 + 8) = xs E 64 ^^^ f := t
  have e2 : xs E (64 + 9) = xs E (64 + 8) ^^^ (if E / 2 ^ (64 + 8) % 2 = 1 then col 72 else 0) := rfl
  have e3 : xs E (64 + 10) = xs E (64 + 9) ^^^ (if E / 2 ^ (64 + 9) % 2 = 1 then col 73 else 0) := rfl
  rw [e3, e2, e1, h8, h9, hlo]
theorem em_xs (e f da dp : Nat) (he : e < 18446744073709551616) (hf : f < 256) (hda : da < 2) (hdp : dp < 2) :
    xs (em e f da dp) 74 = ((xs e 64 ^^^ f) ^^^ (if da = 1 then col 72 else 0)) ^^^ (if dp = 1 then col 73 else 0) :=
  xs_ten (em e f da dp) (xs e 64) f da dp hf hda hdp (xs_congr _ _ 64 fun i hi => div_low e _ 64 i hi) (fun i => div_high e _ 64 he i)
theorem wt_ten (E e f da dp : Nat) (hf : f < 256) (hda : da < 2) (hdp : dp < 2) (h2 : E % 2 ^ 64 = e) (h3 : E / 2 ^ 64 = f + 2 ^ 8 * (da + 2 * dp)) : wtK (64 + 10) E = wt e + wt f + da + dp := by
  have h4 : wtK 64 E = wt e := by
    have := Bm.wtK_mod 64 E
    rw [h2] at this
    unfold wt
    exact this.symm
  have h5 : wtK 8 (f + 2 ^ 8 * (da + 2 * dp)) = wt f := by
    have := Bm.wtK_mod 8 (f + 2 ^ 8 * (da + 2 * dp))
    rw [show (f + 2 ^ 8 * (da + 2 * dp)) % 2 ^ 8 = f by omega, Bm.wtK_wt 8 f (by decide) hf] at this
    exact this.symm
  have h6 : (f + 2 ^ 8 * (da + 2 * dp)) / 2 ^ 8 = da + 2 * dp := by omega
  have h7 : wtK 2 (da + 2 * dp) = da + dp := by
    rcases (show da = 0 ∨ da = 1 by omega) with rfl | rfl <;> rcases (show dp = 0 ∨ dp = 1 by omega) with rfl | rfl <;> decide
  have h8 := Bm.wtK_add 8 2 (f + 2 ^ 8 * (da + 2 * dp))
  rw [h5, h6, h7] at h8
  rw [Bm.wtK_add 64 10 E, h4, h3, show 10 = 8 + 2 from rfl, h8]
  omega
theorem em_wt (e f da dp : Nat) (he : e < 18446744073709551616) (hf : f < 256) (hda : da < 2) (hdp : dp < 2) : wtK 74 (em e f da dp) = wt e + wt f + da + dp := by
  have h2 : em e f da dp % 18446744073709551616 = e := by unfold em; omega
  have h3 : em e f da dp / 18446744073709551616 = f + 256 * (da + 2 * dp) := by unfold em; omega
  obtain ⟨E, hE⟩ : ∃ E, em e f da dp = E := ⟨_, rfl⟩
  rw [hE] at h2 h3 ⊢
  exact wt_ten E e f da dp hf hda hdp h2 h3
/-- where one bit alone is set -/
theorem wt_one (n x i : Nat) (hx : x < 2 ^ n) (hi : i < n) (hb : x / 2 ^ i % 2 = 1) (h : wtK n x = 1) : x = 2 ^ i := by
  induction n generalizing x i with
  | zero => omega
  | succ n ih =>
    rw [wtK] at h
    rw [Nat.pow_succ] at hx
    cases i with
    | zero =>
      have h1 : x % 2 = 1 := by simpa using hb
      have := Rw.wtK_nil n (x / 2) (by omega) (by omega)
      simp; omega
    | succ i =>
      have hb' : x / 2 / 2 ^ i % 2 = 1 := by rw [Nat.div_div_eq_div_mul, ← Nat.pow_succ']; exact hb
      have hne : wtK n (x / 2) ≠ 0 := fun e => by
        have := Rw.wtK_nil n (x / 2) e (by omega)
        rw [this] at hb'
        simp at hb'
      have := ih (x / 2) i (by omega) (by omega) hb' (by omega)
      rw [Nat.pow_succ]
      have h2 : x % 2 = 0 := by omega
      omega
end Go.Proofs.YtoimbjbdkkohcaaGreatDoor.Co

/-
  Layer 10's mathematics, mode 1, word by word: what is told of a word that is unlike in up to two bits.
-/
namespace Go.Proofs.YtoimbjbdkkohcaaGreatDoor.Co
open Go Go.RowKit
open Bm (wt wtK)
open Hm (col xs ap syn kd pl)
open Ln (val wrd)

theorem val_shift (f g : Nat → Nat) : ∀ (n o o' : Nat), (∀ j, j < n → f (o + j) = g (o' + j)) → val f n o = val g n o'
  | 0, _, _, _ => rfl
  | n + 1, o, o', h => by
    show f o + 256 * val f n (o + 1) = g o' + 256 * val g n (o' + 1)
    rw [val_shift f g n (o + 1) (o' + 1) fun j hj => by have := h (j + 1) (by omega); rwa [show o + 1 + j = o + (j + 1) by omega, show o' + 1 + j = o' + (j + 1) by omega]]
    have := h 0 (by omega)
    simp only [Nat.add_zero] at this
    rw [this]
theorem sm_val (F G : Nat → Int) (o n : Nat) (hF : ∀ i, i < n → 0 ≤ F (o + i) ∧ F (o + i) < 256) (hG : ∀ i, i < n → 0 ≤ G (o + i) ∧ G (o + i) < 256) :
    Rw.sm 1 F G o n = wtK (8 * n) (val (fun i => (F i).toNat) n o ^^^ val (fun i => (G i).toNat) n o) := by
  induction n with
  | zero => rfl
  | succ n ih =>
    have h0 := ih (fun i hi => hF i (by omega)) (fun i hi => hG i (by omega))
    have lF := Ln.val_lt (fun i => (F i).toNat) n o fun j h1 h2 => by
      have := hF (j - o) (by omega)
      rw [show o + (j - o) = j by omega] at this
      show (F j).toNat < 256
      omega
    have lG := Ln.val_lt (fun i => (G i).toNat) n o fun j h1 h2 => by
      have := hG (j - o) (by omega)
      rw [show o + (j - o) = j by omega] at this
      show (G j).toNat < 256
      omega
    rw [show (256 : Nat) ^ n = 2 ^ (8 * n) by rw [Nat.pow_mul]] at lF lG
    rw [Rw.sm, h0, Ln.val_top, Ln.val_top]
    obtain ⟨x, hx⟩ : ∃ x, val (fun i => (F i).toNat) n o = x := ⟨_, rfl⟩
    obtain ⟨y, hy⟩ : ∃ y, val (fun i => (G i).toNat) n o = y := ⟨_, rfl⟩
    rw [hx] at lF ⊢
    rw [hy] at lG ⊢
    have bF := hF n (by omega)
    have bG := hG n (by omega)
    obtain ⟨u, hu⟩ : ∃ u, (F (o + n)).toNat = u := ⟨_, rfl⟩
    obtain ⟨v, hv⟩ : ∃ v, (G (o + n)).toNat = v := ⟨_, rfl⟩
    have hu8 : u < 2 ^ 8 := by omega
    have hv8 : v < 2 ^ 8 := by omega
    unfold Rw.dl
    rw [if_pos rfl]
    show _ = wtK (8 * (n + 1)) ((x + (F (o + n)).toNat * 256 ^ n) ^^^ (y + (G (o + n)).toNat * 256 ^ n))
    rw [hu, hv, show (256 : Nat) ^ n = 2 ^ (8 * n) by rw [Nat.pow_mul], show 8 * (n + 1) = 8 * n + 8 by omega, Bm.wtK_add]
    have e1 : ((x + u * 2 ^ (8 * n)) ^^^ (y + v * 2 ^ (8 * n))) / 2 ^ (8 * n) = u ^^^ v := by
      rw [← Nat.shiftRight_eq_div_pow, Nat.shiftRight_xor_distrib, Nat.shiftRight_eq_div_pow, Nat.shiftRight_eq_div_pow, Nat.add_mul_div_right _ _ (Nat.two_pow_pos _), Nat.add_mul_div_right _ _ (Nat.two_pow_pos _), Nat.div_eq_of_lt lF, Nat.div_eq_of_lt lG, Nat.zero_add, Nat.zero_add]
    have e2 : ((x + u * 2 ^ (8 * n)) ^^^ (y + v * 2 ^ (8 * n))) % 2 ^ (8 * n) = x ^^^ y := by
      rw [Nat.xor_mod_two_pow, Nat.add_mul_mod_self_right, Nat.add_mul_mod_self_right, Nat.mod_eq_of_lt lF, Nat.mod_eq_of_lt lG]
    rw [e1, ← Bm.wtK_mod (8 * n) ((x + u * 2 ^ (8 * n)) ^^^ (y + v * 2 ^ (8 * n))), e2, Bm.wtK_wt 8 _ (by decide) (Nat.xor_lt_two_pow hu8 hv8)]

/-- the data and the check bits of the word k of raw bytes -/
def dw (R : Nat → Int) (k : Nat) : Nat := val (fun i => (R i).toNat) 8 (9 * k)
def cw (R : Nat → Int) (k : Nat) : Nat := (R (9 * k + 8)).toNat
/-- a word's syndrome, where it is decoded for an address of the parity b -/
def sB (R : Nat → Int) (b : Int) (k : Nat) : Nat := syn (dw R k) (cw R k) b 0
/-- raw bytes are a line's, for an address of the parity a, with the poison's bit p -/
structure Enc1 (F : Nat → Int) (a p : Int) (R : Nat → Int) : Prop where
  d : ∀ k, k < 8 → ∀ j, j < 8 → R (9 * k + j) = F (8 * k + j)
  c : ∀ k, k < 8 → R (9 * k + 8) = (syn (wrd F k) 0 a p : Int)
def Bt (n : Nat) (F : Nat → Int) : Prop := ∀ i, i < n → 0 ≤ F i ∧ F i < 256
theorem dw_lt {R : Nat → Int} (hR : Bt 72 R) (k : Nat) (hk : k < 8) : dw R k < 18446744073709551616 := by
  have := Ln.val_lt (fun i => (R i).toNat) 8 (9 * k) fun j h1 h2 => by
    have := hR j (by omega)
    show (R j).toNat < 256
    omega
  exact this
theorem cw_lt {R : Nat → Int} (hR : Bt 72 R) (k : Nat) (hk : k < 8) : cw R k < 256 := by
  have := hR (9 * k + 8) (by omega)
  unfold cw; omega
theorem Enc1.byt {F R : Nat → Int} {a p : Int} (h : Enc1 F a p R) (hF : Bt 64 F) : Bt 72 R := by
  intro i hi
  by_cases e : i % 9 = 8
  · have := h.c (i / 9) (by omega)
    rw [show 9 * (i / 9) + 8 = i by omega] at this
    rw [this]
    have := Hm.syn_lt (wrd F (i / 9)) 0 a p (by omega)
    omega
  · have := h.d (i / 9) (by omega) (i % 9) (by omega)
    rw [show 9 * (i / 9) + i % 9 = i by omega] at this
    rw [this]
    exact hF _ (by omega)
theorem Enc1.dw {F R : Nat → Int} {a p : Int} (h : Enc1 F a p R) (k : Nat) (hk : k < 8) : Co.dw R k = wrd F k :=
  val_shift _ _ 8 _ _ fun j hj => by
    show (R (9 * k + j)).toNat = (F (8 * k + j)).toNat
    rw [h.d k hk j hj]
theorem Enc1.cw {F R : Nat → Int} {a p : Int} (h : Enc1 F a p R) (k : Nat) (hk : k < 8) : Co.cw R k = syn (wrd F k) 0 a p := by
  unfold Co.cw; rw [h.c k hk]; rfl
theorem Enc1.same {F R R' : Nat → Int} {a p : Int} (h : Enc1 F a p R) (h' : Enc1 F a p R') : ∀ i, i < 72 → R i = R' i := by
  intro i hi
  by_cases e : i % 9 = 8
  · have h1 := h.c (i / 9) (by omega)
    have h2 := h'.c (i / 9) (by omega)
    rw [show 9 * (i / 9) + 8 = i by omega] at h1 h2
    rw [h1, h2]
  · have h1 := h.d (i / 9) (by omega) (i % 9) (by omega)
    have h2 := h'.d (i / 9) (by omega) (i % 9) (by omega)
    rw [show 9 * (i / 9) + i % 9 = i by omega] at h1 h2
    rw [h1, h2]
/-- how unlike two words are -/
theorem sm_word {X R : Nat → Int} (hX : Bt 72 X) (hR : Bt 72 R) (k : Nat) (hk : k < 8) : Rw.sm 1 X R (9 * k) 9 = wt (dw X k ^^^ dw R k) + wt (cw X k ^^^ cw R k) := by
  rw [show Rw.sm 1 X R (9 * k) 9 = Rw.sm 1 X R (9 * k) 8 + Rw.dl 1 (X (9 * k + 8)) (R (9 * k + 8)) from rfl, sm_val X R (9 * k) 8 (fun i hi => hX _ (by omega)) (fun i hi => hR _ (by omega))]
  unfold Rw.dl
  rw [if_pos rfl]; rfl

theorem ap_both (a b : Int) (ha : a = 0 ∨ a = 1) (hb : b = 0 ∨ b = 1) (da : Nat) (h : da = if a = b then 0 else 1) : (if da = 1 then col 72 else 0) = ap a 72 ^^^ ap b 72 := by
  subst h
  rcases ha with rfl | rfl <;> rcases hb with rfl | rfl <;> decide +kernel
theorem ap_one (p : Int) (hp : p = 0 ∨ p = 1) : (if p.toNat = 1 then col 73 else 0) = ap p 73 := by
  rcases hp with rfl | rfl <;> decide +kernel
/-- a word's syndrome tells of what is unlike alone -/
theorem syn_em {wo wr co cr : Nat} {a b p : Int} (ha : a = 0 ∨ a = 1) (hb : b = 0 ∨ b = 1) (hp : p = 0 ∨ p = 1) (h1 : wo < 18446744073709551616) (h2 : wr < 18446744073709551616) (h3 : cr < 256) (hco : co = syn wo 0 a p) (da : Nat) (hda : da = if a = b then 0 else 1) :
    syn wr cr b 0 = xs (em (wo ^^^ wr) (co ^^^ cr) da p.toNat) 74 := by
  have hc : co < 256 := by rw [hco]; exact Hm.syn_lt _ _ _ _ (by omega)
  rw [em_xs _ _ _ _ (Nat.xor_lt_two_pow (n := 64) h1 h2) (Nat.xor_lt_two_pow (n := 8) hc h3) (by subst hda; split <;> omega) (by omega), ap_both a b ha hb da hda, ap_one p hp, Hm.xs_xor, hco]
  unfold syn
  rw [show ap 0 73 = 0 from rfl, Nat.xor_zero, Nat.zero_xor]
  generalize xs wo 64 = u
  generalize xs wr 64 = v
  generalize ap a 72 = x
  generalize ap b 72 = y
  generalize ap p 73 = z
  rw [show u ^^^ v ^^^ (u ^^^ x ^^^ z ^^^ cr) ^^^ (x ^^^ y) ^^^ z = (cr ^^^ v ^^^ y) ^^^ ((u ^^^ u) ^^^ ((x ^^^ x) ^^^ (z ^^^ z))) from by ac_rfl, Nat.xor_self, Nat.xor_self, Nat.xor_self, Nat.xor_zero, Nat.xor_zero, Nat.xor_zero]
theorem xor_zero_eq {a b : Nat} (h : a ^^^ b = 0) : b = a := by
  have : (a ^^^ b) ^^^ b = b := by rw [h, Nat.zero_xor]
  rw [Nat.xor_assoc, Nat.xor_self, Nat.xor_zero] at this
  exact this.symm
/-- what is told of a word that is unlike in t bits, with the address's and the poison's -/
theorem word1 {wo wr co cr : Nat} {a b p : Int} (ha : a = 0 ∨ a = 1) (hb : b = 0 ∨ b = 1) (hp : p = 0 ∨ p = 1) (h1 : wo < 18446744073709551616) (h2 : wr < 18446744073709551616) (h3 : cr < 256) (hco : co = syn wo 0 a p) (da : Nat) (hda : da = if a = b then 0 else 1) (t : Nat) (ht : t = wt (wo ^^^ wr) + wt (co ^^^ cr) + da + p.toNat) :
    (t = 0 → kd (syn wr cr b 0) = 0 ∧ fx wr (syn wr cr b 0) = wo) ∧
    (t = 1 → (da = 0 → p = 0 → kd (syn wr cr b 0) = 1 ∧ fx wr (syn wr cr b 0) = wo) ∧ (da = 1 → kd (syn wr cr b 0) = 3) ∧ (p = 1 → kd (syn wr cr b 0) = 2)) ∧
    (t = 2 → kd (syn wr cr b 0) = 4) := by
  have hc : co < 256 := by rw [hco]; exact Hm.syn_lt _ _ _ _ (by omega)
  have he := Nat.xor_lt_two_pow (n := 64) h1 h2
  have hf := Nat.xor_lt_two_pow (n := 8) hc h3
  have hd2 : da < 2 := by subst hda; split <;> omega
  have hp2 : p.toNat < 2 := by omega
  rw [syn_em ha hb hp h1 h2 h3 hco da hda]
  have hw := em_wt _ _ da p.toNat he hf hd2 hp2
  have hlow : ∀ i, i < 64 → em (wo ^^^ wr) (co ^^^ cr) da p.toNat / 2 ^ i % 2 = (wo ^^^ wr) / 2 ^ i % 2 := fun i hi => div_low _ _ 64 i hi
  have hhigh : ∀ i, em (wo ^^^ wr) (co ^^^ cr) da p.toNat / 2 ^ (64 + i) = ((co ^^^ cr) + 256 * (da + 2 * p.toNat)) / 2 ^ i := fun i => div_high _ _ 64 he i
  obtain ⟨e, hee⟩ : ∃ e, wo ^^^ wr = e := ⟨_, rfl⟩
  obtain ⟨f, hff⟩ : ∃ f, co ^^^ cr = f := ⟨_, rfl⟩
  rw [hee] at he hw hlow hhigh ht ⊢
  rw [hff] at hf hw hhigh ht ⊢
  rw [hff] at hlow
  obtain ⟨E, hE⟩ : ∃ E, em e f da p.toNat = E := ⟨_, rfl⟩
  rw [hE] at hw hlow hhigh ⊢
  rw [← ht] at hw
  have ways := bits_ways E 74
  rw [hw] at ways
  refine ⟨fun h0 => ?_, fun h0 => ?_, fun h0 => ?_⟩
  · rcases ways with ⟨_, hx⟩ | ⟨h, _⟩ | ⟨h, _⟩ | ⟨h, _⟩ | h
    · rw [hx]
      refine ⟨rfl, ?_⟩
      have : e = 0 := Rw.wtK_nil 64 e (show wt e = 0 by omega) he
      rw [this] at hee
      unfold fx
      rw [if_neg (by decide)]
      exact xor_zero_eq hee
    all_goals omega
  · rcases ways with ⟨h, _⟩ | ⟨_, i, hi, hb1, hx⟩ | ⟨h, _⟩ | ⟨h, _⟩ | h
    · omega
    · rw [hx]
      -- where the bit stands
      have hi64 : 64 ≤ i → (f + 256 * (da + 2 * p.toNat)) / 2 ^ (i - 64) % 2 = 1 := fun h => by
        rw [← hhigh, show 64 + (i - 64) = i by omega]; exact hb1
      refine ⟨fun hda0 hp0 => ?_, fun hda1 => ?_, fun hp1 => ?_⟩
      · have hpt : p.toNat = 0 := by omega
        rw [hda0, hpt] at hi64
        by_cases h64 : i < 64
        · have hbe : e / 2 ^ i % 2 = 1 := by rw [← hlow i h64]; exact hb1
          have hne : wt e ≠ 0 := fun h => by
            have := Rw.wtK_nil 64 e h he
            rw [this] at hbe; simp at hbe
          have he2 := wt_one 64 e i he h64 hbe (show wt e = 1 by omega)
          obtain ⟨k1, k2⟩ := Hm.fixed_one i (by omega)
          refine ⟨k1, ?_⟩
          unfold fx
          rw [if_pos ⟨k1, by rw [k2]; omega⟩, k2, Int.toNat_natCast, ← he2, ← hee, Nat.xor_comm wo, ← Nat.xor_assoc, Nat.xor_self, Nat.zero_xor]
        · have h72 : i < 72 := by
            by_cases h : i < 72
            · exact h
            · have := hi64 (by omega)
              have hp8 : 2 ^ 8 ≤ 2 ^ (i - 64) := Nat.pow_le_pow_right (by omega) (by omega)
              rw [Nat.div_eq_of_lt (by omega)] at this
              omega
          have hbf := hi64 (by omega)
          have hne : wt f ≠ 0 := fun h => by
            have := Rw.wtK_nil 64 f h (Nat.lt_trans hf (by decide))
            rw [this] at hbf; simp at hbf
          have he0 : e = 0 := Rw.wtK_nil 64 e (show wt e = 0 by omega) he
          obtain ⟨k1, k2⟩ := Hm.fixed_one i h72
          refine ⟨k1, ?_⟩
          unfold fx
          rw [if_neg (by rw [k2]; omega)]
          exact xor_zero_eq (by rw [hee, he0])
      · have he0 : e = 0 := Rw.wtK_nil 64 e (show wt e = 0 by omega) he
        have hf0 : f = 0 := Rw.wtK_nil 64 f (show wt f = 0 by omega) (Nat.lt_trans hf (by decide))
        have hp0 : p.toNat = 0 := by omega
        have h64 : 64 ≤ i := by
          by_cases h : i < 64
          · have := hlow i h
            rw [hb1, he0] at this; simp at this
          · omega
        have := hi64 h64
        rw [hf0, hp0, hda1] at this
        have : i = 72 := by
          have h10 : i - 64 < 10 := by omega
          rcases (show i - 64 = 0 ∨ i - 64 = 1 ∨ i - 64 = 2 ∨ i - 64 = 3 ∨ i - 64 = 4 ∨ i - 64 = 5 ∨ i - 64 = 6 ∨ i - 64 = 7 ∨ i - 64 = 8 ∨ i - 64 = 9 by omega) with h | h | h | h | h | h | h | h | h | h <;> rw [h] at this <;> first | omega | (exact absurd this (by decide))
        rw [this]; exact Hm.kd_astray
      · have he0 : e = 0 := Rw.wtK_nil 64 e (show wt e = 0 by omega) he
        have hf0 : f = 0 := Rw.wtK_nil 64 f (show wt f = 0 by omega) (Nat.lt_trans hf (by decide))
        have hp0 : p.toNat = 1 := by omega
        have hda0 : da = 0 := by omega
        have h64 : 64 ≤ i := by
          by_cases h : i < 64
          · have := hlow i h
            rw [hb1, he0] at this; simp at this
          · omega
        have := hi64 h64
        rw [hf0, hp0, hda0] at this
        have : i = 73 := by
          rcases (show i - 64 = 0 ∨ i - 64 = 1 ∨ i - 64 = 2 ∨ i - 64 = 3 ∨ i - 64 = 4 ∨ i - 64 = 5 ∨ i - 64 = 6 ∨ i - 64 = 7 ∨ i - 64 = 8 ∨ i - 64 = 9 by omega) with h | h | h | h | h | h | h | h | h | h <;> rw [h] at this <;> first | omega | (exact absurd this (by decide))
        rw [this]; exact Hm.kd_poison
    all_goals omega
  · rcases ways with ⟨h, _⟩ | ⟨h, _⟩ | ⟨_, i, j, hi, hj, hne, hx⟩ | ⟨h, _⟩ | h
    · omega
    · omega
    · rw [hx]; exact Hm.kd_two i hi j hj hne
    all_goals omega
/-- two code words for addresses of one parity -/
theorem apart1 {wo wr co cr : Nat} {a p q : Int} (hp : p = 0 ∨ p = 1) (hq : q = 0 ∨ q = 1) (h1 : wo < 18446744073709551616) (h2 : wr < 18446744073709551616) (hco : co = syn wo 0 a p) (hcr : cr = syn wr 0 a q) :
    (p = q → (wo = wr ∨ 4 ≤ wt (wo ^^^ wr) + wt (co ^^^ cr))) ∧ (p ≠ q → 3 ≤ wt (wo ^^^ wr) + wt (co ^^^ cr)) := by
  have hc : co < 256 := by rw [hco]; exact Hm.syn_lt _ _ _ _ (by omega)
  have hcc : cr < 256 := by rw [hcr]; exact Hm.syn_lt _ _ _ _ (by omega)
  have he := Nat.xor_lt_two_pow (n := 64) h1 h2
  have hf := Nat.xor_lt_two_pow (n := 8) hc hcc
  obtain ⟨dp, hdp⟩ : ∃ dp : Nat, dp = if p = q then 0 else 1 := ⟨_, rfl⟩
  have hd2 : dp < 2 := by subst hdp; split <;> omega
  have hx0 : xs (em (wo ^^^ wr) (co ^^^ cr) 0 dp) 74 = 0 := by
    have hpq : (if dp = 1 then col 73 else 0) = ap p 73 ^^^ ap q 73 := by
      subst hdp
      rcases hp with rfl | rfl <;> rcases hq with rfl | rfl <;> decide +kernel
    rw [em_xs _ _ _ _ he hf (by omega) hd2, hpq, Hm.xs_xor, hco, hcr, if_neg (by omega), Nat.xor_zero]
    unfold syn
    rw [Nat.zero_xor, Nat.zero_xor]
    generalize xs wo 64 = u
    generalize xs wr 64 = v
    generalize ap a 72 = x
    generalize ap p 73 = y
    generalize ap q 73 = z
    rw [show u ^^^ v ^^^ (u ^^^ x ^^^ y ^^^ (v ^^^ x ^^^ z)) ^^^ (y ^^^ z) = (u ^^^ u) ^^^ ((v ^^^ v) ^^^ ((x ^^^ x) ^^^ ((y ^^^ y) ^^^ (z ^^^ z)))) from by ac_rfl]
    simp only [Nat.xor_self]
  have hw := em_wt _ _ 0 dp he hf (by omega) hd2
  have h4 : wtK 74 (em (wo ^^^ wr) (co ^^^ cr) 0 dp) = 0 ∨ 4 ≤ wtK 74 (em (wo ^^^ wr) (co ^^^ cr) 0 dp) := by
    rcases bits_ways (em (wo ^^^ wr) (co ^^^ cr) 0 dp) 74 with ⟨h, _⟩ | ⟨_, i, hi, _, hx⟩ | ⟨_, i, j, hi, hj, hne, hx⟩ | ⟨_, i, j, l, hi, hj, hl, hne, hx⟩ | h
    · exact .inl h
    · exfalso
      have := (Hm.col_all i hi).2.1
      rw [← hx, hx0] at this; omega
    · exfalso
      exact (Hm.two_lost i hi j hj hne).1 (by rw [← hx, hx0])
    · exfalso
      have h3 := (Hm.two_lost i hi j hj hne).2 l hl
      exact h3 (xor_zero_eq (by rw [← hx, hx0]))
    · exact .inr h
  rw [hw] at h4
  refine ⟨fun hpq => ?_, fun hpq => ?_⟩
  · have hdp0 : dp = 0 := by rw [hdp, if_pos hpq]
    rw [hdp0] at h4
    rcases h4 with h | h
    · left
      have : wo ^^^ wr = 0 := Rw.wtK_nil 64 _ (show wt (wo ^^^ wr) = 0 by omega) he
      exact (xor_zero_eq this).symm
    · right; omega
  · have hdp1 : dp = 1 := by rw [hdp, if_neg hpq]
    rw [hdp1] at h4
    omega
end Go.Proofs.YtoimbjbdkkohcaaGreatDoor.Co

/-
  The plain mathematics of a field of 256 elements: powers of x, logarithms, products by tables and by division of polynomials. No program is named here.
-/
namespace Go.Proofs.YtoimbjbdkkohcaaGreatDoor.Gf

/-- times x -/
def tx (a : Nat) : Nat := if Nat.land a 128 = 0 then (a * 2) % 256 else Nat.xor ((a * 2) % 256) 29
/-- the powers of x -/
def ex : Nat → Nat
  | 0 => 1
  | n + 1 => tx (ex n)
/-- the table of logarithms behind k rounds -/
def lgT : Nat → Nat → Nat
  | 0, _ => 0
  | k + 1, a => if a = ex k then k else lgT k a
def lg (a : Nat) : Nat := lgT 255 a
def gm (a b : Nat) : Nat := if a = 0 ∨ b = 0 then 0 else ex ((lg a + lg b) % 255)
/-- the product of polynomials, k rounds -/
def mp (a b : Nat) : Nat → Nat
  | 0 => 0
  | k + 1 => if (b / 2 ^ k) % 2 = 1 then mp a b k ^^^ (a * 2 ^ k) else mp a b k
/-- the division, j rounds -/
def mr (p : Nat) : Nat → Nat
  | 0 => p
  | j + 1 => if (mr p j / 2 ^ (14 - j)) % 2 = 1 then mr p j ^^^ (285 * 2 ^ (14 - j) / 256) else mr p j
def rm (a b : Nat) : Nat := mr (mp a b 8) 7 % 256

def allN (p : Nat → Bool) : Nat → Bool
  | 0 => true
  | n + 1 => p n && allN p n
theorem allN_get (p : Nat → Bool) (n : Nat) (h : allN p n = true) (i : Nat) (hi : i < n) : p i = true := by
  induction n with
  | zero => omega
  | succ n ih =>
    simp only [allN, Bool.and_eq_true] at h
    by_cases e : i = n
    · subst e; exact h.1
    · exact ih h.2 (by omega)

theorem tx_xor (a b : Nat) (ha : a < 256) (hb : b < 256) : tx (a ^^^ b) = tx a ^^^ tx b := by
  have h : allN (fun a => allN (fun b => Nat.beq (tx (Nat.xor a b)) (Nat.xor (tx a) (tx b))) 256) 256 = true := by decide +kernel
  exact Nat.eq_of_beq_eq_true (allN_get _ _ (allN_get _ _ h a ha) b hb)
theorem tx_lt (a : Nat) (ha : a < 256) : tx a < 256 := by
  have h : allN (fun a => Nat.blt (tx a) 256) 256 = true := by decide +kernel
  have := allN_get _ _ h a ha
  simpa [Nat.blt_eq] using this
theorem tx_pos (a : Nat) (ha : a < 256) (h0 : a ≠ 0) : tx a ≠ 0 := by
  have h : allN (fun a => Nat.beq a 0 || !(Nat.beq (tx a) 0)) 256 = true := by decide +kernel
  have := allN_get _ _ h a ha
  intro ht
  rw [ht] at this
  simp at this
  exact h0 this
theorem ex_lt (n : Nat) : ex n < 256 := by
  induction n with
  | zero => simp [ex]
  | succ n ih => exact tx_lt _ ih
theorem ex_pos (n : Nat) : ex n ≠ 0 := by
  induction n with
  | zero => simp [ex]
  | succ n ih => exact tx_pos _ (ex_lt n) ih
theorem ex_255 : ex 255 = 1 := by decide +kernel
def txN : Nat → Nat → Nat
  | 0, a => a
  | n + 1, a => tx (txN n a)
theorem txN_ex (n m : Nat) : txN n (ex m) = ex (n + m) := by
  induction n with
  | zero => simp [txN]
  | succ n ih => rw [show n + 1 + m = (n + m) + 1 from by omega]; simp [txN, ex, ih]
theorem ex_period (n : Nat) : ex (n + 255) = ex n := by
  rw [← txN_ex, ex_255]; exact txN_ex n 0
theorem ex_mul (n q : Nat) : ex (n + 255 * q) = ex n := by
  induction q with
  | zero => simp
  | succ q ih => rw [show n + 255 * (q + 1) = (n + 255 * q) + 255 from by omega, ex_period, ih]
theorem ex_mod (n : Nat) : ex (n % 255) = ex n := by
  have h := ex_mul (n % 255) (n / 255)
  rw [show n % 255 + 255 * (n / 255) = n from by omega] at h
  exact h.symm
/-- the first power that is a, from n on, where p is the n-th -/
def lgS (a : Nat) : Nat → Nat → Nat → Nat
  | 0, n, _ => n
  | f + 1, n, p => bif Nat.beq p a then n else lgS a f (n + 1) (tx p)
theorem lgS_spec (a f n : Nat) (h : lgS a f n (ex n) < n + f) : ex (lgS a f n (ex n)) = a := by
  induction f generalizing n with
  | zero => simp [lgS] at h
  | succ f ih =>
    simp only [lgS] at h ⊢
    by_cases e : Nat.beq (ex n) a = true
    · simp only [e, cond_true]; exact Nat.eq_of_beq_eq_true e
    · simp only [Bool.not_eq_true] at e
      simp only [e, cond_false] at h ⊢
      exact ih (n + 1) (by show lgS a f (n + 1) (tx (ex n)) < _; omega)
theorem lgS_ok (a : Nat) (ha : a < 256) (h0 : a ≠ 0) : lgS a 255 0 1 < 255 := by
  have h : allN (fun a => Nat.beq a 0 || Nat.blt (lgS a 255 0 1) 255) 256 = true := by decide +kernel
  have := allN_get _ _ h a ha
  simp [Nat.blt_eq] at this
  omega
theorem ex_surj (a : Nat) (ha : a < 256) (h0 : a ≠ 0) : ∃ n, n < 255 ∧ ex n = a :=
  ⟨lgS a 255 0 1, lgS_ok a ha h0, lgS_spec a 255 0 (by have := lgS_ok a ha h0; simpa [ex] using this)⟩
def injS : Nat → Nat → Nat → Bool
  | 0, _, _ => true
  | f + 1, n, p => Nat.beq (lgS p 255 0 1) n && injS f (n + 1) (tx p)
theorem injS_get (f n : Nat) (h : injS f n (ex n) = true) (i : Nat) (hi : i < f) : lgS (ex (n + i)) 255 0 1 = n + i := by
  induction f generalizing n i with
  | zero => omega
  | succ f ih =>
    simp only [injS, Bool.and_eq_true] at h
    cases i with
    | zero => exact Nat.eq_of_beq_eq_true h.1
    | succ i =>
      have := ih (n + 1) h.2 i (by omega)
      rw [show n + (i + 1) = n + 1 + i from by omega]; exact this
theorem ex_inj (i j : Nat) (hi : i < 255) (hj : j < 255) (h : ex i = ex j) : i = j := by
  have hk : injS 255 0 1 = true := by decide +kernel
  have h1 := injS_get 255 0 hk i hi
  have h2 := injS_get 255 0 hk j hj
  rw [Nat.zero_add] at h1 h2
  rw [← h1, ← h2, h]
theorem lgT_ex (k n : Nat) (hk : k ≤ 255) (hn : n < k) : lgT k (ex n) = n := by
  induction k with
  | zero => omega
  | succ k ih =>
    simp only [lgT]
    by_cases e : ex n = ex k
    · rw [if_pos e]; exact (ex_inj n k (by omega) (by omega) e).symm
    · rw [if_neg e]; exact ih (by omega) (by have : n ≠ k := fun h => e (by rw [h]); omega)
theorem lg_ex (n : Nat) (hn : n < 255) : lg (ex n) = n := lgT_ex 255 n (Nat.le_refl _) hn
theorem lg_ex' (n : Nat) : lg (ex n) = n % 255 := by
  rw [← ex_mod n]; exact lg_ex _ (Nat.mod_lt _ (by decide))
theorem ex_lg (a : Nat) (ha : a < 256) (h0 : a ≠ 0) : ex (lg a) = a := by
  obtain ⟨n, hn, rfl⟩ := ex_surj a ha h0
  rw [lg_ex n hn]
theorem lgT_lt (k a : Nat) (hk : k ≤ 255) : lgT k a < 255 := by
  induction k with
  | zero => simp [lgT]
  | succ k ih =>
    simp only [lgT]
    split
    · omega
    · exact ih (by omega)
theorem lg_lt (a : Nat) : lg a < 255 := lgT_lt 255 a (Nat.le_refl _)

theorem gm_ex (i j : Nat) : gm (ex i) (ex j) = ex (i + j) := by
  unfold gm
  rw [if_neg (by have := ex_pos i; have := ex_pos j; omega), lg_ex', lg_ex', ← ex_mod (i + j)]
  congr 1; omega
theorem gm_zero_left (b : Nat) : gm 0 b = 0 := by simp [gm]
theorem gm_zero_right (a : Nat) : gm a 0 = 0 := by simp [gm]
theorem gm_lt (a b : Nat) : gm a b < 256 := by
  unfold gm; split
  · omega
  · exact ex_lt _
theorem gm_comm (a b : Nat) : gm a b = gm b a := by
  unfold gm; rw [Nat.add_comm (lg a)]; simp only [Or.comm]
theorem gm_assoc (a b c : Nat) (ha : a < 256) (hb : b < 256) (hc : c < 256) : gm (gm a b) c = gm a (gm b c) := by
  by_cases h1 : a = 0
  · subst h1; simp [gm_zero_left]
  by_cases h2 : b = 0
  · subst h2; simp [gm_zero_left, gm_zero_right]
  by_cases h3 : c = 0
  · subst h3; simp [gm_zero_right]
  obtain ⟨i, _, rfl⟩ := ex_surj a ha h1
  obtain ⟨j, _, rfl⟩ := ex_surj b hb h2
  obtain ⟨k, _, rfl⟩ := ex_surj c hc h3
  simp only [gm_ex]; rw [Nat.add_assoc]
theorem gm_one (a : Nat) (ha : a < 256) : gm a 1 = a := by
  by_cases h1 : a = 0
  · subst h1; simp [gm_zero_left]
  obtain ⟨i, _, rfl⟩ := ex_surj a ha h1
  exact gm_ex i 0
theorem gm_ne (a b : Nat) (h1 : a ≠ 0) (h2 : b ≠ 0) : gm a b ≠ 0 := by
  unfold gm; rw [if_neg (by omega)]; exact ex_pos _

-- LINEARITY
theorem bit_iff (b k : Nat) : ((b / 2 ^ k) % 2 = 1) ↔ b.testBit k = true := by
  rw [Nat.testBit_eq_decide_div_mod_eq]; simp
theorem xor4 (a b c d : Nat) : (a ^^^ b) ^^^ (c ^^^ d) = (a ^^^ c) ^^^ (b ^^^ d) := by
  rw [Nat.xor_assoc, Nat.xor_assoc, ← Nat.xor_assoc b c d, ← Nat.xor_assoc c b d, Nat.xor_comm b c]
theorem mp_xor (a b c k : Nat) : mp a (b ^^^ c) k = mp a b k ^^^ mp a c k := by
  induction k with
  | zero => simp [mp]
  | succ k ih =>
    simp only [mp, bit_iff, Nat.testBit_xor, ih]
    cases hb : b.testBit k <;> cases hc : c.testBit k <;> simp
    · rw [Nat.xor_assoc]
    · rw [Nat.xor_assoc, Nat.xor_comm (mp a c k), ← Nat.xor_assoc]
    · rw [xor4]; simp
theorem mr_xor (p q j : Nat) : mr (p ^^^ q) j = mr p j ^^^ mr q j := by
  induction j with
  | zero => simp [mr]
  | succ j ih =>
    simp only [mr, bit_iff, ih, Nat.testBit_xor]
    cases hb : (mr p j).testBit (14 - j) <;> cases hc : (mr q j).testBit (14 - j) <;> simp
    · rw [Nat.xor_assoc]
    · rw [Nat.xor_assoc, Nat.xor_comm (mr q j), ← Nat.xor_assoc]
    · rw [xor4]; simp
theorem rm_xor (a b c : Nat) : rm a (b ^^^ c) = rm a b ^^^ rm a c := by
  unfold rm; rw [mp_xor, mr_xor]
  exact Nat.xor_mod_two_pow (n := 8)
theorem rm_lt (a b : Nat) : rm a b < 256 := Nat.mod_lt _ (by decide)
theorem split_bit (k y : Nat) (hk : k < 8) (hy : y < 2 ^ k) : 2 ^ k + y = 2 ^ k ^^^ y := by
  have h : allN (fun k => allN (fun y => Nat.beq (2 ^ k + y) (Nat.xor (2 ^ k) y)) (2 ^ k)) 8 = true := by decide +kernel
  exact Nat.eq_of_beq_eq_true (allN_get _ _ (allN_get _ _ h k hk) y hy)
theorem lin_ext (f g : Nat → Nat) (hf : ∀ x y, x < 256 → y < 256 → f (x ^^^ y) = f x ^^^ f y) (hg : ∀ x y, x < 256 → y < 256 → g (x ^^^ y) = g x ^^^ g y)
    (h : ∀ i, i < 8 → f (2 ^ i) = g (2 ^ i)) (k : Nat) (hk : k ≤ 8) (x : Nat) (hx : x < 2 ^ k) : f x = g x := by
  induction k generalizing x with
  | zero =>
    have : x = 0 := by simpa using hx
    subst this
    have h1 := hf 0 0 (by decide) (by decide)
    have h2 := hg 0 0 (by decide) (by decide)
    simp at h1 h2
    rw [h1, h2]
  | succ k ih =>
    have hp : 2 ^ k ≤ 128 := by
      have : 2 ^ k ≤ 2 ^ 7 := Nat.pow_le_pow_right (by decide) (by omega)
      simpa using this
    by_cases hlt : x < 2 ^ k
    · exact ih (by omega) x hlt
    · have hy : x - 2 ^ k < 2 ^ k := by rw [Nat.pow_succ] at hx; omega
      have e : x = 2 ^ k ^^^ (x - 2 ^ k) := by rw [← split_bit k _ (by omega) hy]; omega
      rw [e, hf _ _ (by omega) (by omega), hg _ _ (by omega) (by omega), h k (by omega), ih (by omega) _ hy]
theorem rm_one (a : Nat) (ha : a < 256) : rm a 1 = a := by
  have h : allN (fun a => Nat.beq (rm a 1) a) 256 = true := by decide +kernel
  exact Nat.eq_of_beq_eq_true (allN_get _ _ h a ha)
theorem rm_tx (a b : Nat) (ha : a < 256) (hb : b < 256) : rm a (tx b) = tx (rm a b) := by
  refine lin_ext (fun b => rm a (tx b)) (fun b => tx (rm a b)) ?_ ?_ ?_ 8 (Nat.le_refl _) b hb
  · intro x y hx hy; simp only [tx_xor x y hx hy, rm_xor]
  · intro x y _ _; simp only [rm_xor]; exact tx_xor _ _ (rm_lt _ _) (rm_lt _ _)
  · intro i hi
    have h : allN (fun a => allN (fun i => Nat.beq (rm a (tx (2 ^ i))) (tx (rm a (2 ^ i)))) 8) 256 = true := by decide +kernel
    exact Nat.eq_of_beq_eq_true (allN_get _ _ (allN_get _ _ h a ha) i hi)
theorem rm_ex (a n : Nat) (ha : a < 256) : rm a (ex n) = txN n a := by
  induction n with
  | zero => exact rm_one a ha
  | succ n ih => simp only [ex, txN]; rw [rm_tx a _ ha (ex_lt n), ih]
theorem rm_zero (a : Nat) : rm a 0 = 0 := by
  have h := rm_xor a 0 0
  simpa using h
theorem rm_zero_left (b : Nat) (hb : b < 256) : rm 0 b = 0 := by
  by_cases h : b = 0
  · subst h; exact rm_zero 0
  obtain ⟨n, hn, rfl⟩ := ex_surj b hb h
  rw [rm_ex 0 n (by decide)]
  clear hb h hn
  have : tx 0 = 0 := by decide
  induction n with
  | zero => rfl
  | succ n ih => simp only [txN, ih, this]
theorem rm_gm (a b : Nat) (ha : a < 256) (hb : b < 256) : rm a b = gm a b := by
  by_cases h1 : a = 0
  · subst h1; rw [rm_zero_left b hb, gm_zero_left]
  by_cases h2 : b = 0
  · subst h2; rw [rm_zero, gm_zero_right]
  obtain ⟨i, _, rfl⟩ := ex_surj a ha h1
  obtain ⟨j, _, rfl⟩ := ex_surj b hb h2
  rw [rm_ex _ _ (ex_lt i), txN_ex, gm_ex, Nat.add_comm]
theorem gm_xor (a b c : Nat) (ha : a < 256) (hb : b < 256) (hc : c < 256) : gm a (b ^^^ c) = gm a b ^^^ gm a c := by
  have hx : b ^^^ c < 2 ^ 8 := Nat.xor_lt_two_pow (by simpa using hb) (by simpa using hc)
  rw [← rm_gm a _ ha (by simpa using hx), ← rm_gm a b ha hb, ← rm_gm a c ha hc, rm_xor]
-- THE BOUNDS OF THE TWO LOOPS
theorem mp_lt (a b k : Nat) (ha : a < 256) : mp a b k < 2 ^ (8 + k) := by
  induction k with
  | zero => simp [mp]
  | succ k ih =>
    have h1 : mp a b k < 2 ^ (8 + (k + 1)) := Nat.lt_of_lt_of_le ih (Nat.pow_le_pow_right (by decide) (by omega))
    simp only [mp]
    split
    · refine Nat.xor_lt_two_pow h1 ?_
      have : a * 2 ^ k < 256 * 2 ^ k := Nat.mul_lt_mul_of_pos_right ha (Nat.two_pow_pos k)
      rw [show 8 + (k + 1) = 8 + k + 1 from by omega, Nat.pow_succ, Nat.pow_add]
      omega
    · exact h1
theorem mr_lt (p j : Nat) (hp : p < 65536) : mr p j < 65536 := by
  induction j with
  | zero => exact hp
  | succ j ih =>
    simp only [mr]
    split
    · refine Nat.xor_lt_two_pow (n := 16) ih ?_
      have : 2 ^ (14 - j) ≤ 2 ^ 14 := Nat.pow_le_pow_right (by decide) (by omega)
      omega
    · exact ih

-- POWERS
def pw (a : Nat) : Nat → Nat
  | 0 => 1
  | n + 1 => gm (pw a n) a
theorem pw_lt (a n : Nat) : pw a n < 256 := by
  cases n with
  | zero => simp [pw]
  | succ n => exact gm_lt _ _
theorem pw_ex (i n : Nat) : pw (ex i) n = ex (i * n) := by
  induction n with
  | zero => simp [pw, ex]
  | succ n ih => simp only [pw, ih, gm_ex]; rw [Nat.mul_succ]
theorem pw_zero (n : Nat) (h : 0 < n) : pw 0 n = 0 := by
  cases n with
  | zero => omega
  | succ n => exact gm_zero_right _

-- THE SAME OVER INTEGERS, AS THE PROGRAM HAS THEM
def eI (n : Int) : Int := ((ex (n % 255).toNat : Nat) : Int)
def lI (a : Int) : Int := ((lg a.toNat : Nat) : Int)
def gI (x y : Int) : Int := ((gm x.toNat y.toNat : Nat) : Int)
def dI (x y : Int) : Int := if x = 0 then 0 else eI (lI x - lI y)
def pI (a n : Int) : Int := ((pw a.toNat n.toNat : Nat) : Int)
theorem eI_bd (n : Int) : 0 < eI n ∧ eI n < 256 := by
  unfold eI; have := ex_lt (n % 255).toNat; have := ex_pos (n % 255).toNat; omega
theorem lI_bd (a : Int) : 0 ≤ lI a ∧ lI a < 255 := by
  unfold lI; have := lg_lt a.toNat; omega
theorem gI_bd (x y : Int) : 0 ≤ gI x y ∧ gI x y < 256 := by
  unfold gI; have := gm_lt x.toNat y.toNat; omega
theorem pI_bd (a n : Int) : 0 ≤ pI a n ∧ pI a n < 256 := by
  unfold pI; have := pw_lt a.toNat n.toNat; omega
theorem dI_bd (x y : Int) : 0 ≤ dI x y ∧ dI x y < 256 := by
  unfold dI; split
  · omega
  · have := eI_bd (lI x - lI y); omega
theorem eI_toNat (n : Int) : (eI n).toNat = ex (n % 255).toNat := by unfold eI; omega
theorem gI_eI (n m : Int) : gI (eI n) (eI m) = eI (n + m) := by
  unfold gI; rw [eI_toNat, eI_toNat, gm_ex]; unfold eI
  rw [← ex_mod ((n % 255).toNat + (m % 255).toNat)]
  congr 2; omega
theorem eI_lI (a : Int) (h0 : 0 < a) (h1 : a < 256) : eI (lI a) = a := by
  unfold eI lI
  have h := lg_lt a.toNat
  rw [show (((lg a.toNat : Nat) : Int) % 255).toNat = lg a.toNat from by omega, ex_lg _ (by omega) (by omega)]
  omega
theorem lI_eI (n : Int) : lI (eI n) = n % 255 := by
  unfold lI; rw [eI_toNat, lg_ex _ (by omega)]; omega
theorem eI_emod (n : Int) : eI (n % 255) = eI n := by
  unfold eI; rw [Int.emod_emod]
theorem eI_congr (n m : Int) (h : n % 255 = m % 255) : eI n = eI m := by unfold eI; rw [h]
theorem eI_zero : eI 0 = 1 := by decide +kernel
theorem gI_comm (x y : Int) : gI x y = gI y x := by unfold gI; rw [gm_comm]
theorem gI_zero_left (y : Int) : gI 0 y = 0 := by unfold gI; rw [show (0 : Int).toNat = 0 from rfl, gm_zero_left]; rfl
theorem gI_zero_right (x : Int) : gI x 0 = 0 := by rw [gI_comm, gI_zero_left]
theorem gI_one (x : Int) (h0 : 0 ≤ x) (h1 : x < 256) : gI x 1 = x := by
  unfold gI; rw [show (1 : Int).toNat = 1 from rfl, gm_one _ (by omega)]; omega
theorem gI_ne (x y : Int) (h0 : 0 < x) (h1 : 0 < y) : gI x y ≠ 0 := by
  unfold gI; have := gm_ne x.toNat y.toNat (by omega) (by omega); omega
theorem gI_assoc (x y z : Int) (hx0 : 0 ≤ x) (hx1 : x < 256) (hy0 : 0 ≤ y) (hy1 : y < 256) (hz0 : 0 ≤ z) (hz1 : z < 256) : gI (gI x y) z = gI x (gI y z) := by
  unfold gI; simp only [Int.toNat_natCast]; rw [gm_assoc _ _ _ (by omega) (by omega) (by omega)]
theorem xor8_bd (x y : Int) (hx0 : 0 ≤ x) (hx1 : x < 256) (hy0 : 0 ≤ y) (hy1 : y < 256) : 0 ≤ bits .xor .u8 x y ∧ bits .xor .u8 x y < 256 := by
  rw [u8_xor x y hx0 hx1 hy0 hy1]
  have : x.toNat ^^^ y.toNat < 2 ^ 8 := Nat.xor_lt_two_pow (by simp; omega) (by simp; omega)
  simp at this; omega
theorem gI_xor (x y z : Int) (hx0 : 0 ≤ x) (hx1 : x < 256) (hy0 : 0 ≤ y) (hy1 : y < 256) (hz0 : 0 ≤ z) (hz1 : z < 256) :
    gI x (bits .xor .u8 y z) = bits .xor .u8 (gI x y) (gI x z) := by
  have h1 := gI_bd x y
  have h2 := gI_bd x z
  rw [u8_xor y z hy0 hy1 hz0 hz1, u8_xor _ _ h1.1 h1.2 h2.1 h2.2]
  unfold gI; simp only [Int.toNat_natCast]; rw [gm_xor _ _ _ (by omega) (by omega) (by omega)]
theorem gI_dI (x y : Int) (hx0 : 0 ≤ x) (hx1 : x < 256) (hy0 : 0 < y) (hy1 : y < 256) : gI (dI x y) y = x := by
  unfold dI; split
  · rename_i h; rw [h, gI_zero_left]
  · have h := gI_eI (lI x - lI y) (lI y)
    rw [eI_lI y hy0 hy1, show lI x - lI y + lI y = lI x from by omega, eI_lI x (by omega) hx1] at h
    exact h
theorem dI_gI (q y : Int) (hx0 : 0 ≤ q) (hx1 : q < 256) (hy0 : 0 < y) (hy1 : y < 256) : dI (gI q y) y = q := by
  by_cases h : q = 0
  · subst h; rw [gI_zero_left]; rfl
  · have hn := gI_ne q y (by omega) hy0
    unfold dI; rw [if_neg hn]
    have e : gI q y = eI (lI q + lI y) := by rw [← gI_eI, eI_lI q (by omega) hx1, eI_lI y hy0 hy1]
    rw [e, lI_eI]
    have : eI ((lI q + lI y) % 255 - lI y) = eI (lI q) := eI_congr _ _ (by omega)
    rw [this, eI_lI q (by omega) hx1]
theorem pI_of (a n : Int) (h0 : 0 < a) (h1 : a < 256) (hn : 0 ≤ n) : pI a n = eI (lI a * n) := by
  unfold pI
  have e : a.toNat = ex (lg a.toNat) := (ex_lg _ (by omega) (by omega)).symm
  rw [e, pw_ex]
  unfold eI lI
  rw [← ex_mod (lg a.toNat * n.toNat)]
  have : ((lg a.toNat : Int) * n % 255).toNat = lg a.toNat * n.toNat % 255 := by
    obtain ⟨m, rfl⟩ := Int.eq_ofNat_of_zero_le hn
    simp only [Int.toNat_natCast]
    rw [← Int.natCast_mul]; omega
  rw [this]
theorem pI_step (a n : Int) (hn : 0 ≤ n) : pI a (n + 1) = gI (pI a n) a := by
  unfold pI gI
  rw [show (n + 1).toNat = n.toNat + 1 from by omega]
  simp [pw]
theorem pI_zero (a : Int) : pI a 0 = 1 := rfl
theorem pI_null (n : Int) (h : 0 < n) : pI 0 n = 0 := by
  unfold pI; rw [show (0 : Int).toNat = 0 from rfl, pw_zero _ (by omega)]; rfl
theorem rm_gI (x y : Int) (hx0 : 0 ≤ x) (hx1 : x < 256) (hy0 : 0 ≤ y) (hy1 : y < 256) : ((rm x.toNat y.toNat : Nat) : Int) = gI x y := by
  unfold gI; rw [rm_gm _ _ (by omega) (by omega)]

end Go.Proofs.YtoimbjbdkkohcaaGreatDoor.Gf
