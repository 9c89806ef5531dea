/-
  The plain mathematics of a field of 256 elements: powers of x, logarithms, products by tables and by division of polynomials. No program is named here.
-/
import Derived.Laws.BitsAllLaws
namespace Go.Proofs.YtdjknaafefnlcaaDoor.Gf

/-- times x -/
def tx (a : Nat) : Nat := if Nat.land a 128 = 0 then (a * 2) % 256 else Nat.xor ((a * 2) % 256) 29
/-- the powers of x -/
def ex : Nat → Nat
  | 0 => 1
  | n + 1 => tx (ex n)
/-- the table of logarithms behind k rounds -/
def lgT : Nat → Nat → Nat
  | 0, _ => 0
  | k + 1, a => if a = ex k then k else lgT k a
def lg (a : Nat) : Nat := lgT 255 a
def gm (a b : Nat) : Nat := if a = 0 ∨ b = 0 then 0 else ex ((lg a + lg b) % 255)
/-- the product of polynomials, k rounds -/
def mp (a b : Nat) : Nat → Nat
  | 0 => 0
  | k + 1 => if (b / 2 ^ k) % 2 = 1 then mp a b k ^^^ (a * 2 ^ k) else mp a b k
/-- the division, j rounds -/
def mr (p : Nat) : Nat → Nat
  | 0 => p
  | j + 1 => if (mr p j / 2 ^ (14 - j)) % 2 = 1 then mr p j ^^^ (285 * 2 ^ (14 - j) / 256) else mr p j
def rm (a b : Nat) : Nat := mr (mp a b 8) 7 % 256

def allN (p : Nat → Bool) : Nat → Bool
  | 0 => true
  | n + 1 => p n && allN p n
theorem allN_get (p : Nat → Bool) (n : Nat) (h : allN p n = true) (i : Nat) (hi : i < n) : p i = true := by
  induction n with
  | zero => omega
  | succ n ih =>
    simp only [allN, Bool.and_eq_true] at h
    by_cases e : i = n
    · subst e; exact h.1
    · exact ih h.2 (by omega)

theorem tx_xor (a b : Nat) (ha : a < 256) (hb : b < 256) : tx (a ^^^ b) = tx a ^^^ tx b := by
  have h : allN (fun a => allN (fun b => Nat.beq (tx (Nat.xor a b)) (Nat.xor (tx a) (tx b))) 256) 256 = true := by decide +kernel
  exact Nat.eq_of_beq_eq_true (allN_get _ _ (allN_get _ _ h a ha) b hb)
theorem tx_lt (a : Nat) (ha : a < 256) : tx a < 256 := by
  have h : allN (fun a => Nat.blt (tx a) 256) 256 = true := by decide +kernel
  have := allN_get _ _ h a ha
  simpa [Nat.blt_eq] using this
theorem tx_pos (a : Nat) (ha : a < 256) (h0 : a ≠ 0) : tx a ≠ 0 := by
  have h : allN (fun a => Nat.beq a 0 || !(Nat.beq (tx a) 0)) 256 = true := by decide +kernel
  have := allN_get _ _ h a ha
  intro ht
  rw [ht] at this
  simp at this
  exact h0 this
theorem ex_lt (n : Nat) : ex n < 256 := by
  induction n with
  | zero => simp [ex]
  | succ n ih => exact tx_lt _ ih
theorem ex_pos (n : Nat) : ex n ≠ 0 := by
  induction n with
  | zero => simp [ex]
  | succ n ih => exact tx_pos _ (ex_lt n) ih
theorem ex_255 : ex 255 = 1 := by decide +kernel
def txN : Nat → Nat → Nat
  | 0, a => a
  | n + 1, a => tx (txN n a)
theorem txN_ex (n m : Nat) : txN n (ex m) = ex (n + m) := by
  induction n with
  | zero => simp [txN]
  | succ n ih => rw [show n + 1 + m = (n + m) + 1 from by omega]; simp [txN, ex, ih]
theorem ex_period (n : Nat) : ex (n + 255) = ex n := by
  rw [← txN_ex, ex_255]; exact txN_ex n 0
theorem ex_mul (n q : Nat) : ex (n + 255 * q) = ex n := by
  induction q with
  | zero => simp
  | succ q ih => rw [show n + 255 * (q + 1) = (n + 255 * q) + 255 from by omega, ex_period, ih]
theorem ex_mod (n : Nat) : ex (n % 255) = ex n := by
  have h := ex_mul (n % 255) (n / 255)
  rw [show n % 255 + 255 * (n / 255) = n from by omega] at h
  exact h.symm
/-- the first power that is a, from n on, where p is the n-th -/
def lgS (a : Nat) : Nat → Nat → Nat → Nat
  | 0, n, _ => n
  | f + 1, n, p => bif Nat.beq p a then n else lgS a f (n + 1) (tx p)
theorem lgS_spec (a f n : Nat) (h : lgS a f n (ex n) < n + f) : ex (lgS a f n (ex n)) = a := by
  induction f generalizing n with
  | zero => simp [lgS] at h
  | succ f ih =>
    simp only [lgS] at h ⊢
    by_cases e : Nat.beq (ex n) a = true
    · simp only [e, cond_true]; exact Nat.eq_of_beq_eq_true e
    · simp only [Bool.not_eq_true] at e
      simp only [e, cond_false] at h ⊢
      exact ih (n + 1) (by show lgS a f (n + 1) (tx (ex n)) < _; omega)
theorem lgS_ok (a : Nat) (ha : a < 256) (h0 : a ≠ 0) : lgS a 255 0 1 < 255 := by
  have h : allN (fun a => Nat.beq a 0 || Nat.blt (lgS a 255 0 1) 255) 256 = true := by decide +kernel
  have := allN_get _ _ h a ha
  simp [Nat.blt_eq] at this
  omega
theorem ex_surj (a : Nat) (ha : a < 256) (h0 : a ≠ 0) : ∃ n, n < 255 ∧ ex n = a :=
  ⟨lgS a 255 0 1, lgS_ok a ha h0, lgS_spec a 255 0 (by have := lgS_ok a ha h0; simpa [ex] using this)⟩
def injS : Nat → Nat → Nat → Bool
  | 0, _, _ => true
  | f + 1, n, p => Nat.beq (lgS p 255 0 1) n && injS f (n + 1) (tx p)
theorem injS_get (f n : Nat) (h : injS f n (ex n) = true) (i : Nat) (hi : i < f) : lgS (ex (n + i)) 255 0 1 = n + i := by
  induction f generalizing n i with
  | zero => omega
  | succ f ih =>
    simp only [injS, Bool.and_eq_true] at h
    cases i with
    | zero => exact Nat.eq_of_beq_eq_true h.1
    | succ i =>
      have := ih (n + 1) h.2 i (by omega)
      rw [show n + (i + 1) = n + 1 + i from by omega]; exact this
theorem ex_inj (i j : Nat) (hi : i < 255) (hj : j < 255) (h : ex i = ex j) : i = j := by
  have hk : injS 255 0 1 = true := by decide +kernel
  have h1 := injS_get 255 0 hk i hi
  have h2 := injS_get 255 0 hk j hj
  rw [Nat.zero_add] at h1 h2
  rw [← h1, ← h2, h]
theorem lgT_ex (k n : Nat) (hk : k ≤ 255) (hn : n < k) : lgT k (ex n) = n := by
  induction k with
  | zero => omega
  | succ k ih =>
    simp only [lgT]
    by_cases e : ex n = ex k
    · rw [if_pos e]; exact (ex_inj n k (by omega) (by omega) e).symm
    · rw [if_neg e]; exact ih (by omega) (by have : n ≠ k := fun h => e (by rw [h]); omega)
theorem lg_ex (n : Nat) (hn : n < 255) : lg (ex n) = n := lgT_ex 255 n (Nat.le_refl _) hn
theorem lg_ex' (n : Nat) : lg (ex n) = n % 255 := by
  rw [← ex_mod n]; exact lg_ex _ (Nat.mod_lt _ (by decide))
theorem ex_lg (a : Nat) (ha : a < 256) (h0 : a ≠ 0) : ex (lg a) = a := by
  obtain ⟨n, hn, rfl⟩ := ex_surj a ha h0
  rw [lg_ex n hn]
theorem lgT_lt (k a : Nat) (hk : k ≤ 255) : lgT k a < 255 := by
  induction k with
  | zero => simp [lgT]
  | succ k ih =>
    simp only [lgT]
    split
    · omega
    · exact ih (by omega)
theorem lg_lt (a : Nat) : lg a < 255 := lgT_lt 255 a (Nat.le_refl _)

theorem gm_ex (i j : Nat) : gm (ex i) (ex j) = ex (i + j) := by
  unfold gm
  rw [if_neg (by have := ex_pos i; have := ex_pos j; omega), lg_ex', lg_ex', ← ex_mod (i + j)]
  congr 1; omega
theorem gm_zero_left (b : Nat) : gm 0 b = 0 := by simp [gm]
theorem gm_zero_right (a : Nat) : gm a 0 = 0 := by simp [gm]
theorem gm_lt (a b : Nat) : gm a b < 256 := by
  unfold gm; split
  · omega
  · exact ex_lt _
theorem gm_comm (a b : Nat) : gm a b = gm b a := by
  unfold gm; rw [Nat.add_comm (lg a)]; simp only [Or.comm]
theorem gm_assoc (a b c : Nat) (ha : a < 256) (hb : b < 256) (hc : c < 256) : gm (gm a b) c = gm a (gm b c) := by
  by_cases h1 : a = 0
  · subst h1; simp [gm_zero_left]
  by_cases h2 : b = 0
  · subst h2; simp [gm_zero_left, gm_zero_right]
  by_cases h3 : c = 0
  · subst h3; simp [gm_zero_right]
  obtain ⟨i, _, rfl⟩ := ex_surj a ha h1
  obtain ⟨j, _, rfl⟩ := ex_surj b hb h2
  obtain ⟨k, _, rfl⟩ := ex_surj c hc h3
  simp only [gm_ex]; rw [Nat.add_assoc]
theorem gm_one (a : Nat) (ha : a < 256) : gm a 1 = a := by
  by_cases h1 : a = 0
  · subst h1; simp [gm_zero_left]
  obtain ⟨i, _, rfl⟩ := ex_surj a ha h1
  exact gm_ex i 0
theorem gm_ne (a b : Nat) (h1 : a ≠ 0) (h2 : b ≠ 0) : gm a b ≠ 0 := by
  unfold gm; rw [if_neg (by omega)]; exact ex_pos _

-- LINEARITY
theorem bit_iff (b k : Nat) : ((b / 2 ^ k) % 2 = 1) ↔ b.testBit k = true := by
  rw [Nat.testBit_eq_decide_div_mod_eq]; simp
theorem xor4 (a b c d : Nat) : (a ^^^ b) ^^^ (c ^^^ d) = (a ^^^ c) ^^^ (b ^^^ d) := by
  rw [Nat.xor_assoc, Nat.xor_assoc, ← Nat.xor_assoc b c d, ← Nat.xor_assoc c b d, Nat.xor_comm b c]
theorem mp_xor (a b c k : Nat) : mp a (b ^^^ c) k = mp a b k ^^^ mp a c k := by
  induction k with
  | zero => simp [mp]
  | succ k ih =>
    simp only [mp, bit_iff, Nat.testBit_xor, ih]
    cases hb : b.testBit k <;> cases hc : c.testBit k <;> simp
    · rw [Nat.xor_assoc]
    · rw [Nat.xor_assoc, Nat.xor_comm (mp a c k), ← Nat.xor_assoc]
    · rw [xor4]; simp
theorem mr_xor (p q j : Nat) : mr (p ^^^ q) j = mr p j ^^^ mr q j := by
  induction j with
  | zero => simp [mr]
  | succ j ih =>
    simp only [mr, bit_iff, ih, Nat.testBit_xor]
    cases hb : (mr p j).testBit (14 - j) <;> cases hc : (mr q j).testBit (14 - j) <;> simp
    · rw [Nat.xor_assoc]
    · rw [Nat.xor_assoc, Nat.xor_comm (mr q j), ← Nat.xor_assoc]
    · rw [xor4]; simp
theorem rm_xor (a b c : Nat) : rm a (b ^^^ c) = rm a b ^^^ rm a c := by
  unfold rm; rw [mp_xor, mr_xor]
  exact Nat.xor_mod_two_pow (n := 8)
theorem rm_lt (a b : Nat) : rm a b < 256 := Nat.mod_lt _ (by decide)
theorem split_bit (k y : Nat) (hk : k < 8) (hy : y < 2 ^ k) : 2 ^ k + y = 2 ^ k ^^^ y := by
  have h : allN (fun k => allN (fun y => Nat.beq (2 ^ k + y) (Nat.xor (2 ^ k) y)) (2 ^ k)) 8 = true := by decide +kernel
  exact Nat.eq_of_beq_eq_true (allN_get _ _ (allN_get _ _ h k hk) y hy)
theorem lin_ext (f g : Nat → Nat) (hf : ∀ x y, x < 256 → y < 256 → f (x ^^^ y) = f x ^^^ f y) (hg : ∀ x y, x < 256 → y < 256 → g (x ^^^ y) = g x ^^^ g y)
    (h : ∀ i, i < 8 → f (2 ^ i) = g (2 ^ i)) (k : Nat) (hk : k ≤ 8) (x : Nat) (hx : x < 2 ^ k) : f x = g x := by
  induction k generalizing x with
  | zero =>
    have : x = 0 := by simpa using hx
    subst this
    have h1 := hf 0 0 (by decide) (by decide)
    have h2 := hg 0 0 (by decide) (by decide)
    simp at h1 h2
    rw [h1, h2]
  | succ k ih =>
    have hp : 2 ^ k ≤ 128 := by
      have : 2 ^ k ≤ 2 ^ 7 := Nat.pow_le_pow_right (by decide) (by omega)
      simpa using this
    by_cases hlt : x < 2 ^ k
    · exact ih (by omega) x hlt
    · have hy : x - 2 ^ k < 2 ^ k := by rw [Nat.pow_succ] at hx; omega
      have e : x = 2 ^ k ^^^ (x - 2 ^ k) := by rw [← split_bit k _ (by omega) hy]; omega
      rw [e, hf _ _ (by omega) (by omega), hg _ _ (by omega) (by omega), h k (by omega), ih (by omega) _ hy]
theorem rm_one (a : Nat) (ha : a < 256) : rm a 1 = a := by
  have h : allN (fun a => Nat.beq (rm a 1) a) 256 = true := by decide +kernel
  exact Nat.eq_of_beq_eq_true (allN_get _ _ h a ha)
theorem rm_tx (a b : Nat) (ha : a < 256) (hb : b < 256) : rm a (tx b) = tx (rm a b) := by
  refine lin_ext (fun b => rm a (tx b)) (fun b => tx (rm a b)) ?_ ?_ ?_ 8 (Nat.le_refl _) b hb
  · intro x y hx hy; simp only [tx_xor x y hx hy, rm_xor]
  · intro x y _ _; simp only [rm_xor]; exact tx_xor _ _ (rm_lt _ _) (rm_lt _ _)
  · intro i hi
    have h : allN (fun a => allN (fun i => Nat.beq (rm a (tx (2 ^ i))) (tx (rm a (2 ^ i)))) 8) 256 = true := by decide +kernel
    exact Nat.eq_of_beq_eq_true (allN_get _ _ (allN_get _ _ h a ha) i hi)
theorem rm_ex (a n : Nat) (ha : a < 256) : rm a (ex n) = txN n a := by
  induction n with
  | zero => exact rm_one a ha
  | succ n ih => simp only [ex, txN]; rw [rm_tx a _ ha (ex_lt n), ih]
theorem rm_zero (a : Nat) : rm a 0 = 0 := by
  have h := rm_xor a 0 0
  simpa using h
theorem rm_zero_left (b : Nat) (hb : b < 256) : rm 0 b = 0 := by
  by_cases h : b = 0
  · subst h; exact rm_zero 0
  obtain ⟨n, hn, rfl⟩ := ex_surj b hb h
  rw [rm_ex 0 n (by decide)]
  clear hb h hn
  have : tx 0 = 0 := by decide
  induction n with
  | zero => rfl
  | succ n ih => simp only [txN, ih, this]
theorem rm_gm (a b : Nat) (ha : a < 256) (hb : b < 256) : rm a b = gm a b := by
  by_cases h1 : a = 0
  · subst h1; rw [rm_zero_left b hb, gm_zero_left]
  by_cases h2 : b = 0
  · subst h2; rw [rm_zero, gm_zero_right]
  obtain ⟨i, _, rfl⟩ := ex_surj a ha h1
  obtain ⟨j, _, rfl⟩ := ex_surj b hb h2
  rw [rm_ex _ _ (ex_lt i), txN_ex, gm_ex, Nat.add_comm]
theorem gm_xor (a b c : Nat) (ha : a < 256) (hb : b < 256) (hc : c < 256) : gm a (b ^^^ c) = gm a b ^^^ gm a c := by
  have hx : b ^^^ c < 2 ^ 8 := Nat.xor_lt_two_pow (by simpa using hb) (by simpa using hc)
  rw [← rm_gm a _ ha (by simpa using hx), ← rm_gm a b ha hb, ← rm_gm a c ha hc, rm_xor]
-- THE BOUNDS OF THE TWO LOOPS
theorem mp_lt (a b k : Nat) (ha : a < 256) : mp a b k < 2 ^ (8 + k) := by
  induction k with
  | zero => simp [mp]
  | succ k ih =>
    have h1 : mp a b k < 2 ^ (8 + (k + 1)) := Nat.lt_of_lt_of_le ih (Nat.pow_le_pow_right (by decide) (by omega))
    simp only [mp]
    split
    · refine Nat.xor_lt_two_pow h1 ?_
      have : a * 2 ^ k < 256 * 2 ^ k := Nat.mul_lt_mul_of_pos_right ha (Nat.two_pow_pos k)
      rw [show 8 + (k + 1) = 8 + k + 1 from by omega, Nat.pow_succ, Nat.pow_add]
      omega
    · exact h1
theorem mr_lt (p j : Nat) (hp : p < 65536) : mr p j < 65536 := by
  induction j with
  | zero => exact hp
  | succ j ih =>
    simp only [mr]
    split
    · refine Nat.xor_lt_two_pow (n := 16) ih ?_
      have : 2 ^ (14 - j) ≤ 2 ^ 14 := Nat.pow_le_pow_right (by decide) (by omega)
      omega
    · exact ih

-- POWERS
def pw (a : Nat) : Nat → Nat
  | 0 => 1
  | n + 1 => gm (pw a n) a
theorem pw_lt (a n : Nat) : pw a n < 256 := by
  cases n with
  | zero => simp [pw]
  | succ n => exact gm_lt _ _
theorem pw_ex (i n : Nat) : pw (ex i) n = ex (i * n) := by
  induction n with
  | zero => simp [pw, ex]
  | succ n ih => simp only [pw, ih, gm_ex]; rw [Nat.mul_succ]
theorem pw_zero (n : Nat) (h : 0 < n) : pw 0 n = 0 := by
  cases n with
  | zero => omega
  | succ n => exact gm_zero_right _

-- THE SAME OVER INTEGERS, AS THE PROGRAM HAS THEM
def eI (n : Int) : Int := ((ex (n % 255).toNat : Nat) : Int)
def lI (a : Int) : Int := ((lg a.toNat : Nat) : Int)
def gI (x y : Int) : Int := ((gm x.toNat y.toNat : Nat) : Int)
def dI (x y : Int) : Int := if x = 0 then 0 else eI (lI x - lI y)
def pI (a n : Int) : Int := ((pw a.toNat n.toNat : Nat) : Int)
theorem eI_bd (n : Int) : 0 < eI n ∧ eI n < 256 := by
  unfold eI; have := ex_lt (n % 255).toNat; have := ex_pos (n % 255).toNat; omega
theorem lI_bd (a : Int) : 0 ≤ lI a ∧ lI a < 255 := by
  unfold lI; have := lg_lt a.toNat; omega
theorem gI_bd (x y : Int) : 0 ≤ gI x y ∧ gI x y < 256 := by
  unfold gI; have := gm_lt x.toNat y.toNat; omega
theorem pI_bd (a n : Int) : 0 ≤ pI a n ∧ pI a n < 256 := by
  unfold pI; have := pw_lt a.toNat n.toNat; omega
theorem dI_bd (x y : Int) : 0 ≤ dI x y ∧ dI x y < 256 := by
  unfold dI; split
  · omega
  · have := eI_bd (lI x - lI y); omega
theorem eI_toNat (n : Int) : (eI n).toNat = ex (n % 255).toNat := by unfold eI; omega
theorem gI_eI (n m : Int) : gI (eI n) (eI m) = eI (n + m) := by
  unfold gI; rw [eI_toNat, eI_toNat, gm_ex]; unfold eI
  rw [← ex_mod ((n % 255).toNat + (m % 255).toNat)]
  congr 2; omega
theorem eI_lI (a : Int) (h0 : 0 < a) (h1 : a < 256) : eI (lI a) = a := by
  unfold eI lI
  have h := lg_lt a.toNat
  rw [show (((lg a.toNat : Nat) : Int) % 255).toNat = lg a.toNat from by omega, ex_lg _ (by omega) (by omega)]
  omega
theorem lI_eI (n : Int) : lI (eI n) = n % 255 := by
  unfold lI; rw [eI_toNat, lg_ex _ (by omega)]; omega
theorem eI_emod (n : Int) : eI (n % 255) = eI n := by
  unfold eI; rw [Int.emod_emod]
theorem eI_congr (n m : Int) (h : n % 255 = m % 255) : eI n = eI m := by unfold eI; rw [h]
theorem eI_zero : eI 0 = 1 := by decide +kernel
theorem gI_comm (x y : Int) : gI x y = gI y x := by unfold gI; rw [gm_comm]
theorem gI_zero_left (y : Int) : gI 0 y = 0 := by unfold gI; rw [show (0 : Int).toNat = 0 from rfl, gm_zero_left]; rfl
theorem gI_zero_right (x : Int) : gI x 0 = 0 := by rw [gI_comm, gI_zero_left]
theorem gI_one (x : Int) (h0 : 0 ≤ x) (h1 : x < 256) : gI x 1 = x := by
  unfold gI; rw [show (1 : Int).toNat = 1 from rfl, gm_one _ (by omega)]; omega
theorem gI_ne (x y : Int) (h0 : 0 < x) (h1 : 0 < y) : gI x y ≠ 0 := by
  unfold gI; have := gm_ne x.toNat y.toNat (by omega) (by omega); omega
theorem gI_assoc (x y z : Int) (hx0 : 0 ≤ x) (hx1 : x < 256) (hy0 : 0 ≤ y) (hy1 : y < 256) (hz0 : 0 ≤ z) (hz1 : z < 256) : gI (gI x y) z = gI x (gI y z) := by
  unfold gI; simp only [Int.toNat_natCast]; rw [gm_assoc _ _ _ (by omega) (by omega) (by omega)]
theorem xor8_bd (x y : Int) (hx0 : 0 ≤ x) (hx1 : x < 256) (hy0 : 0 ≤ y) (hy1 : y < 256) : 0 ≤ bits .xor .u8 x y ∧ bits .xor .u8 x y < 256 := by
  rw [u8_xor x y hx0 hx1 hy0 hy1]
  have : x.toNat ^^^ y.toNat < 2 ^ 8 := Nat.xor_lt_two_pow (by simp; omega) (by simp; omega)
  simp at this; omega
theorem gI_xor (x y z : Int) (hx0 : 0 ≤ x) (hx1 : x < 256) (hy0 : 0 ≤ y) (hy1 : y < 256) (hz0 : 0 ≤ z) (hz1 : z < 256) :
    gI x (bits .xor .u8 y z) = bits .xor .u8 (gI x y) (gI x z) := by
  have h1 := gI_bd x y
  have h2 := gI_bd x z
  rw [u8_xor y z hy0 hy1 hz0 hz1, u8_xor _ _ h1.1 h1.2 h2.1 h2.2]
  unfold gI; simp only [Int.toNat_natCast]; rw [gm_xor _ _ _ (by omega) (by omega) (by omega)]
theorem gI_dI (x y : Int) (hx0 : 0 ≤ x) (hx1 : x < 256) (hy0 : 0 < y) (hy1 : y < 256) : gI (dI x y) y = x := by
  unfold dI; split
  · rename_i h; rw [h, gI_zero_left]
  · have h := gI_eI (lI x - lI y) (lI y)
    rw [eI_lI y hy0 hy1, show lI x - lI y + lI y = lI x from by omega, eI_lI x (by omega) hx1] at h
    exact h
theorem dI_gI (q y : Int) (hx0 : 0 ≤ q) (hx1 : q < 256) (hy0 : 0 < y) (hy1 : y < 256) : dI (gI q y) y = q := by
  by_cases h : q = 0
  · subst h; rw [gI_zero_left]; rfl
  · have hn := gI_ne q y (by omega) hy0
    unfold dI; rw [if_neg hn]
    have e : gI q y = eI (lI q + lI y) := by rw [← gI_eI, eI_lI q (by omega) hx1, eI_lI y hy0 hy1]
    rw [e, lI_eI]
    have : eI ((lI q + lI y) % 255 - lI y) = eI (lI q) := eI_congr _ _ (by omega)
    rw [this, eI_lI q (by omega) hx1]
theorem pI_of (a n : Int) (h0 : 0 < a) (h1 : a < 256) (hn : 0 ≤ n) : pI a n = eI (lI a * n) := by
  unfold pI
  have e : a.toNat = ex (lg a.toNat) := (ex_lg _ (by omega) (by omega)).symm
  rw [e, pw_ex]
  unfold eI lI
  rw [← ex_mod (lg a.toNat * n.toNat)]
  have : ((lg a.toNat : Int) * n % 255).toNat = lg a.toNat * n.toNat % 255 := by
    obtain ⟨m, rfl⟩ := Int.eq_ofNat_of_zero_le hn
    simp only [Int.toNat_natCast]
    rw [← Int.natCast_mul]; omega
  rw [this]
theorem pI_step (a n : Int) (hn : 0 ≤ n) : pI a (n + 1) = gI (pI a n) a := by
  unfold pI gI
  rw [show (n + 1).toNat = n.toNat + 1 from by omega]
  simp [pw]
theorem pI_zero (a : Int) : pI a 0 = 1 := rfl
theorem pI_null (n : Int) (h : 0 < n) : pI 0 n = 0 := by
  unfold pI; rw [show (0 : Int).toNat = 0 from rfl, pw_zero _ (by omega)]; rfl
theorem rm_gI (x y : Int) (hx0 : 0 ≤ x) (hx1 : x < 256) (hy0 : 0 ≤ y) (hy1 : y < 256) : ((rm x.toNat y.toNat : Nat) : Int) = gI x y := by
  unfold gI; rw [rm_gm _ _ (by omega) (by omega)]

end Go.Proofs.YtdjknaafefnlcaaDoor.Gf
