/-
  Layer 9's mathematics: how much two are unlike, word by word; bits turned and set.
-/
import Derived.Test.YtcpjmfemgdgplaaBitMath
namespace Go.Proofs.Ytcpjmfemgdgplaa.Rw
open Go Go.RowKit Bm

theorem wtK_nil (k x : Nat) (h : wtK k x = 0) (hx : x < 2 ^ k) : x = 0 := by
  induction k generalizing x with
  | zero => simpa using hx
  | succ k ih =>
    simp only [wtK] at h
    have := ih (x / 2) (by omega) (by rw [Nat.pow_succ] at hx; omega)
    omega
theorem wt_xor_le (a b : Nat) : wt (a ^^^ b) ≤ wt a + wt b := by
  have := wtK_xor 64 a b
  unfold wt; omega
theorem wt8 (x : Nat) (h : x < 256) : wt x ≤ 8 := by
  rw [← wtK_wt 8 x (by decide) h]; exact wtK_le 8 x

/-- how unlike two bytes are -/
def dl (m x y : Int) : Nat := if m = 1 then wt (x.toNat ^^^ y.toNat) else if x = y then 0 else 1
theorem dl_self (m x : Int) : dl m x x = 0 := by
  unfold dl
  split
  · rw [Nat.xor_self]; exact wt_zero
  · simp
theorem dl_symm (m x y : Int) : dl m x y = dl m y x := by
  unfold dl
  by_cases h : m = 1
  · rw [if_pos h, if_pos h, Nat.xor_comm]
  · rw [if_neg h, if_neg h]
    by_cases e : x = y
    · rw [if_pos e, if_pos e.symm]
    · rw [if_neg e, if_neg (fun e' => e e'.symm)]
theorem dl_tri (m x y z : Int) : dl m x z ≤ dl m x y + dl m y z := by
  unfold dl
  by_cases h : m = 1
  · rw [if_pos h, if_pos h, if_pos h]
    have e : x.toNat ^^^ z.toNat = (x.toNat ^^^ y.toNat) ^^^ (y.toNat ^^^ z.toNat) := by
      rw [Nat.xor_assoc, ← Nat.xor_assoc y.toNat, Nat.xor_self, Nat.zero_xor]
    rw [e]; exact wt_xor_le _ _
  · rw [if_neg h, if_neg h, if_neg h]
    by_cases e : x = z
    · rw [if_pos e]; omega
    · rw [if_neg e]
      by_cases e1 : x = y
      · rw [if_neg (fun e2 => e (e1.trans e2))]; omega
      · rw [if_neg e1]; omega
theorem dl_zero (m x y : Int) (hx : 0 ≤ x ∧ x < 256) (hy : 0 ≤ y ∧ y < 256) (h : dl m x y = 0) : x = y := by
  unfold dl at h
  split at h
  · have h2 : x.toNat ^^^ y.toNat < 2 ^ 8 := Nat.xor_lt_two_pow (by omega) (by omega)
    rw [← wtK_wt 8 _ (by decide) h2] at h
    have := wtK_nil 8 _ h h2
    have e : x.toNat = y.toNat := by
      have e2 : x.toNat ^^^ y.toNat ^^^ y.toNat = y.toNat := by rw [this, Nat.zero_xor]
      rwa [Nat.xor_assoc, Nat.xor_self, Nat.xor_zero] at e2
    omega
  · split at h
    · assumption
    · omega
theorem dl_le (m x y : Int) (hx : 0 ≤ x ∧ x < 256) (hy : 0 ≤ y ∧ y < 256) : dl m x y ≤ 8 ∧ (m ≠ 1 → dl m x y ≤ 1) := by
  unfold dl
  split
  · exact ⟨wt8 _ (Nat.xor_lt_two_pow (n := 8) (by omega) (by omega)), fun h => absurd ‹m = 1› h⟩
  · split <;> exact ⟨by omega, fun _ => by omega⟩

/-- the same of n bytes from the place o on -/
def sm (m : Int) (F G : Nat → Int) (o : Nat) : Nat → Nat
  | 0 => 0
  | j + 1 => sm m F G o j + dl m (F (o + j)) (G (o + j))
theorem sm_symm (m : Int) (F G : Nat → Int) (o n : Nat) : sm m F G o n = sm m G F o n := by
  induction n with
  | zero => rfl
  | succ n ih => rw [sm, sm, ih, dl_symm]
theorem sm_tri (m : Int) (F G H : Nat → Int) (o n : Nat) : sm m F H o n ≤ sm m F G o n + sm m G H o n := by
  induction n with
  | zero => exact Nat.le_refl _
  | succ n ih =>
    have := dl_tri m (F (o + n)) (G (o + n)) (H (o + n))
    rw [sm, sm, sm]; omega
theorem sm_zero (m : Int) (F G : Nat → Int) (o n : Nat) (hF : ∀ i, i < n → 0 ≤ F (o + i) ∧ F (o + i) < 256) (hG : ∀ i, i < n → 0 ≤ G (o + i) ∧ G (o + i) < 256) (h : sm m F G o n = 0) : ∀ i, i < n → F (o + i) = G (o + i) := by
  induction n with
  | zero => intro i hi; omega
  | succ n ih =>
    rw [sm] at h
    intro i hi
    by_cases e : i = n
    · subst e; exact dl_zero m _ _ (hF _ hi) (hG _ hi) (by omega)
    · exact ih (fun j hj => hF j (by omega)) (fun j hj => hG j (by omega)) (by omega) i (by omega)
theorem sm_same (m : Int) (F G : Nat → Int) (o n : Nat) (h : ∀ i, i < n → F (o + i) = G (o + i)) : sm m F G o n = 0 := by
  induction n with
  | zero => rfl
  | succ n ih => rw [sm, ih (fun j hj => h j (by omega)), h n (by omega), dl_self]
/-- where one alone is unlike -/
theorem sm_one (m : Int) (F G : Nat → Int) (o n p : Nat) (hp : p < n) (h : ∀ i, i < n → i ≠ p → F (o + i) = G (o + i)) : sm m F G o n = dl m (F (o + p)) (G (o + p)) := by
  induction n with
  | zero => omega
  | succ n ih =>
    rw [sm]
    by_cases e : p = n
    · subst e
      rw [sm_same m F G o p fun i hi => h i (by omega) (by omega)]; omega
    · rw [ih (by omega) fun i hi => h i (by omega), h n (by omega) (fun x => e x.symm), dl_self]; omega
theorem sm_le (m : Int) (F G : Nat → Int) (o n : Nat) (hF : ∀ i, i < n → 0 ≤ F (o + i) ∧ F (o + i) < 256) (hG : ∀ i, i < n → 0 ≤ G (o + i) ∧ G (o + i) < 256) : sm m F G o n ≤ 8 * n := by
  induction n with
  | zero => exact Nat.le_refl _
  | succ n ih =>
    have h1 := ih (fun j hj => hF j (by omega)) (fun j hj => hG j (by omega))
    have h2 := (dl_le m _ _ (hF n (by omega)) (hG n (by omega))).1
    rw [sm]; omega
theorem sm_congr (m : Int) (F G F' G' : Nat → Int) (o o' n : Nat) (h : ∀ i, i < n → F (o + i) = F' (o' + i) ∧ G (o + i) = G' (o' + i)) : sm m F G o n = sm m F' G' o' n := by
  induction n with
  | zero => rfl
  | succ n ih => rw [sm, sm, ih fun i hi => h i (by omega), (h n (by omega)).1, (h n (by omega)).2]

/-- of the first k words, each of n bytes, the most -/
def mx (m : Int) (F G : Nat → Int) (n : Nat) : Nat → Nat
  | 0 => 0
  | w + 1 => max (mx m F G n w) (sm m F G (n * w) n)
theorem mx_symm (m : Int) (F G : Nat → Int) (n k : Nat) : mx m F G n k = mx m G F n k := by
  induction k with
  | zero => rfl
  | succ k ih => rw [mx, mx, ih, sm_symm]
theorem mx_tri (m : Int) (F G H : Nat → Int) (n k : Nat) : mx m F H n k ≤ mx m F G n k + mx m G H n k := by
  induction k with
  | zero => exact Nat.le_refl _
  | succ k ih =>
    have := sm_tri m F G H (n * k) n
    rw [mx, mx, mx]; omega
theorem mx_ge (m : Int) (F G : Nat → Int) (n k w : Nat) (h : w < k) : sm m F G (n * w) n ≤ mx m F G n k := by
  induction k with
  | zero => omega
  | succ k ih =>
    rw [mx]
    by_cases e : w = k
    · subst e; omega
    · have := ih (by omega); omega
theorem mx_le (m : Int) (F G : Nat → Int) (n k c : Nat) (h : ∀ w, w < k → sm m F G (n * w) n ≤ c) : mx m F G n k ≤ c := by
  induction k with
  | zero => exact Nat.zero_le _
  | succ k ih =>
    have h1 := ih fun w hw => h w (by omega)
    have h2 := h k (by omega)
    rw [mx]; omega
theorem idx_lt (n k w i : Nat) (hw : w < k) (hi : i < n) : n * w + i < n * k := by
  have : n * (w + 1) ≤ n * k := Nat.mul_le_mul_left n hw
  rw [Nat.mul_succ] at this; omega
theorem mx_bound (m : Int) (F G : Nat → Int) (n k : Nat) (hF : ∀ i, i < n * k → 0 ≤ F i ∧ F i < 256) (hG : ∀ i, i < n * k → 0 ≤ G i ∧ G i < 256) : mx m F G n k ≤ 8 * n :=
  mx_le m F G n k _ fun w hw => sm_le m F G _ n (fun i hi => hF _ (idx_lt n k w i hw hi)) (fun i hi => hG _ (idx_lt n k w i hw hi))
theorem mx_zero (m : Int) (F G : Nat → Int) (n k : Nat) (hn : 0 < n) (hF : ∀ i, i < n * k → 0 ≤ F i ∧ F i < 256) (hG : ∀ i, i < n * k → 0 ≤ G i ∧ G i < 256) : mx m F G n k = 0 ↔ ∀ i, i < n * k → F i = G i := by
  constructor
  · intro h i hi
    have hw : i / n < k := Nat.div_lt_of_lt_mul hi
    have h1 := mx_ge m F G n k (i / n) hw
    have h2 := sm_zero m F G (n * (i / n)) n (fun j hj => hF _ (idx_lt n k _ j hw hj)) (fun j hj => hG _ (idx_lt n k _ j hw hj)) (by omega) (i % n) (Nat.mod_lt _ hn)
    rwa [Nat.div_add_mod] at h2
  · intro h
    have := mx_le m F G n k 0 fun w hw => Nat.le_of_eq (sm_same m F G _ n fun i hi => h _ (idx_lt n k w i hw hi))
    omega
/-- where one byte alone is unlike -/
theorem mx_one (m : Int) (F G : Nat → Int) (n k p : Nat) (hn : 0 < n) (hp : p < n * k) (h : ∀ i, i < n * k → i ≠ p → F i = G i) : mx m F G n k = dl m (F p) (G p) := by
  have hw : p / n < k := Nat.div_lt_of_lt_mul hp
  have hd := Nat.div_add_mod p n
  have hs : sm m F G (n * (p / n)) n = dl m (F p) (G p) := by
    rw [sm_one m F G _ n (p % n) (Nat.mod_lt _ hn) fun i hi hne => h _ (idx_lt n k _ i hw hi) (by omega), hd]
  refine Nat.le_antisymm (mx_le m F G n k _ fun w hw' => ?_) (hs ▸ mx_ge m F G n k _ hw)
  by_cases e : w = p / n
  · subst e; omega
  · rw [sm_same m F G _ n fun i hi => h _ (idx_lt n k w i hw' hi) fun e' => e (by rw [← e', Nat.mul_add_div hn, Nat.div_eq_of_lt hi]; rfl)]
    exact Nat.zero_le _
/-- where in each word one byte at most is unlike -/
theorem mx_col (m : Int) (F G : Nat → Int) (n k p c : Nat) (hp : p < n) (h : ∀ i, i < n * k → i % n ≠ p → F i = G i) (hc : ∀ i, i < n * k → dl m (F i) (G i) ≤ c) : mx m F G n k ≤ c := by
  refine mx_le m F G n k _ fun w hw => ?_
  rw [sm_one m F G _ n p hp fun i hi hne => h _ (idx_lt n k w i hw hi) (by rw [Nat.mul_add_mod, Nat.mod_eq_of_lt hi]; exact hne)]
  exact hc _ (idx_lt n k w p hw hp)

/-! ### bits set and turned -/
/-- a byte with the bit r as v, 0 or 1 -/
def fc (x r v : Nat) : Nat := (x - (if x / 2 ^ r % 2 = 1 then 2 ^ r else 0)) + (if v = 1 then 2 ^ r else 0)
theorem fc_flip : ∀ x < 256, ∀ r < 8, x ^^^ 2 ^ r = fc x r (1 - x / 2 ^ r % 2) := by decide +kernel
theorem fc_stay : ∀ x < 256, ∀ r < 8, x = fc x r (x / 2 ^ r % 2) := by decide +kernel
theorem flip_wt : ∀ x < 256, ∀ r < 8, wtK 8 ((x ^^^ 2 ^ r) ^^^ x) = 1 ∧ (x ^^^ 2 ^ r) ≠ x ∧ (x ^^^ 2 ^ r) < 256 ∧ ((x ^^^ 2 ^ r) ^^^ x) < 256 := by decide +kernel
theorem dl_flip (m : Int) (x r : Nat) (hx : x < 256) (hr : r < 8) : dl m ((x ^^^ 2 ^ r : Nat) : Int) (x : Int) = 1 := by
  obtain ⟨h1, h2, h3, h4⟩ := flip_wt x hx r hr
  unfold dl
  split
  · rw [show ((x ^^^ 2 ^ r : Nat) : Int).toNat = x ^^^ 2 ^ r from rfl, show ((x : Int)).toNat = x from rfl, ← wtK_wt 8 _ (by decide) h4]; exact h1
  · rw [if_neg (by omega)]
/-- all of a chip's bytes as v -/
def chp (n : Nat) (c : Int) (F : Nat → Int) (v : Int) (i : Nat) : Int := if 0 < n ∧ ((i % n : Nat) : Int) = c then v else F i
end Go.Proofs.Ytcpjmfemgdgplaa.Rw
