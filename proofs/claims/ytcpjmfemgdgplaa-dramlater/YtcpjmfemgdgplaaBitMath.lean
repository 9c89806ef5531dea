/-
  Plain mathematics of layer 3: the weight of a number, by dividing; what the eight steps of a count of ones make of it; sums, and what is left of a word when its lowest one is taken.
-/
import Derived.Laws.BitsAllLaws
import Derived.Lib.TrailingZeros
import Derived.WalkLawsBesides
import Derived.WalkKit
namespace Go.Proofs.Ytcpjmfemgdgplaa.Bm
open Go Go.RowKit

/-- how many of the lowest k bits of x are ones -/
def wtK : Nat → Nat → Nat
  | 0, _ => 0
  | k + 1, x => x % 2 + wtK k (x / 2)
/-- the weight of a word of at most 64 bits -/
def wt (x : Nat) : Nat := wtK 64 x

theorem wtK_zero (k : Nat) : wtK k 0 = 0 := by induction k with
  | zero => rfl
  | succ k ih => simp [wtK, ih]
theorem wtK_le (k x : Nat) : wtK k x ≤ k := by
  induction k generalizing x with
  | zero => simp [wtK]
  | succ k ih => have := ih (x / 2); simp only [wtK]; omega
theorem wtK_add (a b x : Nat) : wtK (a + b) x = wtK a x + wtK b (x / 2 ^ a) := by
  induction a generalizing x with
  | zero => simp [wtK]
  | succ a ih =>
    rw [show a + 1 + b = (a + b) + 1 from by omega]
    simp only [wtK, ih, Nat.div_div_eq_div_mul]
    rw [show 2 * 2 ^ a = 2 ^ (a + 1) from by rw [Nat.pow_succ]; omega]
    omega
theorem wtK_succ_hi (k x : Nat) : wtK (k + 1) x = wtK k x + x / 2 ^ k % 2 := by
  rw [wtK_add]; simp [wtK]
theorem wtK_mod (k x : Nat) : wtK k (x % 2 ^ k) = wtK k x := by
  induction k generalizing x with
  | zero => rfl
  | succ k ih =>
    simp only [wtK]
    have e1 : x % 2 ^ (k + 1) % 2 = x % 2 := Nat.mod_mod_of_dvd x ⟨2 ^ k, by rw [Nat.pow_succ]; omega⟩
    have e2 : x % 2 ^ (k + 1) / 2 = x / 2 % 2 ^ k := by
      rw [Nat.pow_succ, Nat.mul_comm, Nat.mod_mul_right_div_self]
    rw [e1, e2, ih]
theorem wtK_big (k j x : Nat) (h : x < 2 ^ k) : wtK (k + j) x = wtK k x := by
  rw [wtK_add, Nat.div_eq_of_lt h, wtK_zero]; omega
theorem wtK_wt (k x : Nat) (hk : k ≤ 64) (h : x < 2 ^ k) : wtK k x = wt x := by
  have := wtK_big k (64 - k) x h
  rw [show k + (64 - k) = 64 from by omega] at this
  exact this.symm
theorem wt_step (x : Nat) (h : x < 18446744073709551616) : wt x = x % 2 + wt (x / 2) := by
  have e : wt (x / 2) = wtK 63 (x / 2) := by
    have := wtK_big 63 1 (x / 2) (by omega)
    exact this
  rw [e]; rfl
theorem wt_zero : wt 0 = 0 := wtK_zero 64
theorem wt_le (x : Nat) : wt x ≤ 64 := wtK_le 64 x

/-! ### a count of ones by eight steps -/
theorem and_split (a m c : Nat) (hc : c < 256) : a &&& (256 * m + c) = 256 * (a / 256 &&& m) + (a % 256 &&& c) := by
  have h1 : (a &&& (256 * m + c)) / 2 ^ 8 = a / 2 ^ 8 &&& (256 * m + c) / 2 ^ 8 := by rw [Nat.and_div_two_pow]
  have h2 : (a &&& (256 * m + c)) % 2 ^ 8 = a % 2 ^ 8 &&& (256 * m + c) % 2 ^ 8 := by rw [Nat.and_mod_two_pow]
  have e1 : (256 * m + c) / 2 ^ 8 = m := by omega
  have e2 : (256 * m + c) % 2 ^ 8 = c := by omega
  rw [e1] at h1; rw [e2] at h2
  have := Nat.div_add_mod (a &&& (256 * m + c)) (2 ^ 8)
  rw [h1, h2] at this
  exact this.symm
/-- k bytes c -/
def mk (c : Nat) : Nat → Nat
  | 0 => 0
  | k + 1 => 256 * mk c k + c
def s1 (k x : Nat) : Nat := (x / 2 &&& mk 85 k) + (x &&& mk 85 k)
def s2 (k x : Nat) : Nat := (x / 4 &&& mk 51 k) + (x &&& mk 51 k)
def s3 (k x : Nat) : Nat := (x / 16 + x) &&& mk 15 k
def t1 (c : Nat) : Nat := (c / 2 &&& 85) + (c &&& 85)
def t2 (c : Nat) : Nat := (c / 4 &&& 51) + (c &&& 51)
theorem c1 : ∀ r < 512, r / 2 % 256 &&& 85 = r % 256 / 2 &&& 85 := by decide +kernel
theorem c2 : ∀ r < 1024, r / 4 % 256 &&& 51 = r % 256 / 4 &&& 51 := by decide +kernel
theorem b1 : ∀ r < 256, t1 r < 256 := by decide +kernel
theorem b2 : ∀ r < 256, t2 (t1 r) < 69 ∧ t2 (t1 r) % 16 < 5 := by decide +kernel
theorem p8 : ∀ r < 256, (t2 (t1 r) / 16 + t2 (t1 r)) % 16 = wtK 8 r := by decide +kernel
theorem s1_step (k x : Nat) : s1 (k + 1) x = 256 * s1 k (x / 256) + t1 (x % 256) := by
  unfold s1 t1
  rw [show mk 85 (k + 1) = 256 * mk 85 k + 85 from rfl, and_split _ _ _ (by decide), and_split x _ _ (by decide)]
  have e := c1 (x % 512) (by omega)
  rw [show x % 512 / 2 % 256 = x / 2 % 256 from by omega, show x % 512 % 256 = x % 256 from by omega] at e
  rw [e, show x / 2 / 256 = x / 256 / 2 from by omega]
  omega
theorem s2_step (k x : Nat) : s2 (k + 1) x = 256 * s2 k (x / 256) + t2 (x % 256) := by
  unfold s2 t2
  rw [show mk 51 (k + 1) = 256 * mk 51 k + 51 from rfl, and_split _ _ _ (by decide), and_split x _ _ (by decide)]
  have e := c2 (x % 1024) (by omega)
  rw [show x % 1024 / 4 % 256 = x / 4 % 256 from by omega, show x % 1024 % 256 = x % 256 from by omega] at e
  rw [e, show x / 4 / 256 = x / 256 / 4 from by omega]
  omega
/-- the bytes of the first two steps, one by one -/
def y2 (k x : Nat) : Nat := s2 k (s1 k x)
theorem y2_step (k x : Nat) : y2 (k + 1) x = 256 * y2 k (x / 256) + t2 (t1 (x % 256)) := by
  have h := b1 (x % 256) (by omega)
  unfold y2
  rw [s1_step, s2_step]
  rw [show (256 * s1 k (x / 256) + t1 (x % 256)) / 256 = s1 k (x / 256) from by omega, show (256 * s1 k (x / 256) + t1 (x % 256)) % 256 = t1 (x % 256) from by omega]
theorem y2_low (k x : Nat) : y2 k x % 16 < 5 := by
  cases k with
  | zero => simp [y2, s2, s1, mk]
  | succ k => have := b2 (x % 256) (by omega); rw [y2_step]; omega
theorem s3_step (k q c : Nat) (hc : c < 69) (_hc' : c % 16 < 5) (hq : q % 16 < 5) : s3 (k + 1) (256 * q + c) = 256 * s3 k q + (c / 16 + c) % 16 := by
  unfold s3
  rw [show mk 15 (k + 1) = 256 * mk 15 k + 15 from rfl, and_split _ _ _ (by decide)]
  rw [show ((256 * q + c) / 16 + (256 * q + c)) / 256 = q / 16 + q from by omega, nat_mask4]
  omega
def y3 (k x : Nat) : Nat := s3 k (y2 k x)
theorem y3_step (k x : Nat) : y3 (k + 1) x = 256 * y3 k (x / 256) + wtK 8 (x % 256) := by
  have h := b2 (x % 256) (by omega)
  unfold y3
  rw [y2_step, s3_step _ _ _ h.1 h.2 (y2_low _ _), p8 _ (by omega)]
theorem wtK8 (k x : Nat) : wtK (8 + k) x = wtK 8 (x % 256) + wtK k (x / 256) := by
  rw [wtK_add, ← wtK_mod 8 x]
/-- what the last four steps make of eight bytes -/
theorem low (x r q : Nat) (h : x = r + 256 * q) (hr : r ≤ 64) : x / 256 = q ∧ x % 128 = r % 128 := by omega
theorem le2 {a b : Nat} (ha : a ≤ 8) (hb : b ≤ 8) : a + b ≤ 64 := by omega
theorem le4 {a b c d : Nat} (ha : a ≤ 8) (hb : b ≤ 8) (hc : c ≤ 8) (hd : d ≤ 8) : a + b + (c + d) ≤ 64 := by omega
theorem le8 {a b c d e f g h : Nat} (ha : a ≤ 8) (hb : b ≤ 8) (hc : c ≤ 8) (hd : d ≤ 8) (he : e ≤ 8) (hf : f ≤ 8) (hg : g ≤ 8) (hh : h ≤ 8) : a + b + (c + d) + (e + f + (g + h)) ≤ 64 := by omega
theorem up (x r q N M : Nat) (h : x = r + 256 * q) (hr : r ≤ 8) (hq : q ≤ N) (hM : 8 + 256 * N ≤ M) : x ≤ M := by omega
theorem two (X x Y y r s q p : Nat) (hX : X = x) (hY : Y = y) (h : x = r + 256 * q) (k : y = s + 256 * p) : X + Y = (r + s) + 256 * (q + p) := by omega
theorem six {Y g h : Nat} (h6 : Y = g + 256 * h) : Y + h = (g + h) + 256 * h := by omega
theorem fold8 (a b c d e f g h Y0 Y1 Y2 Y3 Y4 Y5 Y6 : Nat) (ha : a ≤ 8) (hb : b ≤ 8) (hc : c ≤ 8) (hd : d ≤ 8) (he : e ≤ 8) (hf : f ≤ 8) (hg : g ≤ 8) (hh : h ≤ 8)
    (h0 : Y0 = a + 256 * Y1) (h1 : Y1 = b + 256 * Y2) (h2 : Y2 = c + 256 * Y3) (h3 : Y3 = d + 256 * Y4) (h4 : Y4 = e + 256 * Y5) (h5 : Y5 = f + 256 * Y6) (h6 : Y6 = g + 256 * h)
    (u v z : Nat) (hu : u = Y0 + Y0 / 256) (hv : v = u + u / 65536) (hz : z = v + v / 4294967296) :
    z < 4611686018427387904 ∧ u < 4611686018427387904 ∧ v < 4611686018427387904 ∧ Y0 < 4611686018427387904 ∧ z % 128 = a + b + c + d + e + f + g + h := by
  have b6 := up _ _ _ 8 2056 h6 hg hh (by decide)
  have b5 := up _ _ _ _ 526344 h5 hf b6 (by decide)
  have b4 := up _ _ _ _ 134744072 h4 he b5 (by decide)
  have b3 := up _ _ _ _ 34494482440 h3 hd b4 (by decide)
  have b2 := up _ _ _ _ 8830587504648 h2 hc b3 (by decide)
  have b1 := up _ _ _ _ 2260630401189896 h1 hb b2 (by decide)
  have b0 := up _ _ _ _ 578721382704613384 h0 ha b1 (by decide)
  have hu' : u = Y0 + Y1 := by rw [hu, (low _ _ _ h0 (Nat.le_trans ha (by decide))).1]
  -- the bytes of u
  have u0 := two _ _ _ _ _ _ _ _ rfl rfl h0 h1
  have u1 := two _ _ _ _ _ _ _ _ rfl rfl h1 h2
  have u2 := two _ _ _ _ _ _ _ _ rfl rfl h2 h3
  have u3 := two _ _ _ _ _ _ _ _ rfl rfl h3 h4
  have u4 := two _ _ _ _ _ _ _ _ rfl rfl h4 h5
  have u5 := two _ _ _ _ _ _ _ _ rfl rfl h5 h6
  have u6 : Y6 + h = (g + h) + 256 * h := six h6
  have hv' : v = (Y0 + Y1) + (Y2 + Y3) := by
    rw [hv, hu', show (65536 : Nat) = 256 * 256 from rfl, ← Nat.div_div_eq_div_mul, (low _ _ _ u0 (le2 ha hb)).1, (low _ _ _ u1 (le2 hb hc)).1]
  have v0 := two _ _ _ _ _ _ _ _ rfl rfl u0 u2
  have v1 := two _ _ _ _ _ _ _ _ rfl rfl u1 u3
  have v2 := two _ _ _ _ _ _ _ _ rfl rfl u2 u4
  have v3 := two _ _ _ _ _ _ _ _ rfl rfl u3 u5
  have v4 := two _ _ _ _ _ _ _ _ rfl rfl u4 u6
  have hz' : z = ((Y0 + Y1) + (Y2 + Y3)) + ((Y4 + Y5) + (Y6 + h)) := by
    rw [hz, hv', show (4294967296 : Nat) = 256 * 256 * 256 * 256 from rfl, ← Nat.div_div_eq_div_mul, ← Nat.div_div_eq_div_mul, ← Nat.div_div_eq_div_mul,
      (low _ _ _ v0 (le4 ha hb hc hd)).1, (low _ _ _ v1 (le4 hb hc hd he)).1, (low _ _ _ v2 (le4 hc hd he hf)).1, (low _ _ _ v3 (le4 hd he hf hg)).1]
  have z0 := two _ _ _ _ _ _ _ _ rfl rfl v0 v4
  have hm := (low _ _ _ (hz'.trans z0) (le8 ha hb hc hd he hf hg hh)).2
  clear z0 v0 v1 v2 v3 v4 u0 u1 u2 u3 u4 u5 u6 h0 h1 h2 h3 h4 h5 h6 hu hv hz
  refine ⟨by omega, by omega, by omega, by omega, ?_⟩
  rw [hm]; omega
theorem y3_eight (x : Nat) : ∃ a b c d e f g h Y0 Y1 Y2 Y3 Y4 Y5 Y6 : Nat, (a ≤ 8 ∧ b ≤ 8 ∧ c ≤ 8 ∧ d ≤ 8 ∧ e ≤ 8 ∧ f ≤ 8 ∧ g ≤ 8 ∧ h ≤ 8) ∧
    (Y0 = a + 256 * Y1 ∧ Y1 = b + 256 * Y2 ∧ Y2 = c + 256 * Y3 ∧ Y3 = d + 256 * Y4 ∧ Y4 = e + 256 * Y5 ∧ Y5 = f + 256 * Y6 ∧ Y6 = g + 256 * h) ∧ y3 8 x = Y0 ∧ wt x = a + b + c + d + e + f + g + h := by
  have st : ∀ k x, y3 (k + 1) x = wtK 8 (x % 256) + 256 * y3 k (x / 256) := fun k x => by rw [y3_step]; omega
  refine ⟨_, _, _, _, _, _, _, y3 1 (x / 256 / 256 / 256 / 256 / 256 / 256 / 256), y3 8 x, y3 7 (x / 256), y3 6 (x / 256 / 256), y3 5 (x / 256 / 256 / 256), y3 4 (x / 256 / 256 / 256 / 256), y3 3 (x / 256 / 256 / 256 / 256 / 256), y3 2 (x / 256 / 256 / 256 / 256 / 256 / 256),
    ⟨wtK_le 8 _, wtK_le 8 _, wtK_le 8 _, wtK_le 8 _, wtK_le 8 _, wtK_le 8 _, wtK_le 8 _, ?_⟩, ⟨st 7 _, st 6 _, st 5 _, st 4 _, st 3 _, st 2 _, st 1 _⟩, rfl, ?_⟩
  · rw [st 0]; have := wtK_le 8 (x / 256 / 256 / 256 / 256 / 256 / 256 / 256 % 256); have : y3 0 (x / 256 / 256 / 256 / 256 / 256 / 256 / 256 / 256) = 0 := by simp [y3, s3, mk]
    omega
  · have e0 : y3 0 (x / 256 / 256 / 256 / 256 / 256 / 256 / 256 / 256) = 0 := by simp [y3, s3, mk]
    rw [st 0, e0]
    unfold wt
    rw [show (64 : Nat) = 8 + (8 + (8 + (8 + (8 + (8 + (8 + (8 + 0))))))) from rfl, wtK8, wtK8, wtK8, wtK8, wtK8, wtK8, wtK8, wtK8]
    simp only [wtK]
    omega
theorem mk85 : mk 85 8 = 6148914691236517205 := by decide
theorem mk51 : mk 51 8 = 3689348814741910323 := by decide
theorem mk15 : mk 15 8 = 1085102592571150095 := by decide

theorem s1_lt (k x : Nat) : s1 k x < 256 ^ k := by
  induction k generalizing x with
  | zero => simp [s1, mk]
  | succ k ih =>
    have := ih (x / 256); have := b1 (x % 256) (by omega)
    rw [s1_step, Nat.pow_succ]; omega
theorem y2_lt (k x : Nat) : 255 * y2 k x + 68 ≤ 68 * 256 ^ k := by
  induction k generalizing x with
  | zero => simp [y2, s2, s1, mk]
  | succ k ih =>
    have := ih (x / 256); have := (b2 (x % 256) (by omega)).1
    rw [y2_step, Nat.pow_succ]; omega
theorem and64 (a : Nat) (m : Nat) (ha : a < 18446744073709551616) (hm : m < 18446744073709551616) : bits .and .u64 (a : Int) (m : Int) = ((a &&& m : Nat) : Int) := u64_and_nat a m ha hm
/-- the eight steps over 64 bits -/
theorem ones64 (x : Nat) (hx : x < 18446744073709551616) : ∃ a1 a2 b1 b2 c u v : Nat,
    (bits .and .u64 ((x : Int) / 2) 6148914691236517205 = (a1 : Int) ∧ bits .and .u64 (x : Int) 6148914691236517205 = (a2 : Int)) ∧ (a1 < 18446744073709551616 ∧ a2 < 18446744073709551616 ∧ a1 + a2 < 18446744073709551616) ∧
    (bits .and .u64 (((a1 : Int) + (a2 : Int)) / 4) 3689348814741910323 = (b1 : Int) ∧ bits .and .u64 ((a1 : Int) + (a2 : Int)) 3689348814741910323 = (b2 : Int)) ∧ (b1 + b2 < 4919131752989213765) ∧
    bits .and .u64 (((b1 : Int) + (b2 : Int)) / 16 + ((b1 : Int) + (b2 : Int))) 1085102592571150095 = (c : Int) ∧ c < 4611686018427387904 ∧
    (c : Int) + (c : Int) / 256 = (u : Int) ∧ u < 4611686018427387904 ∧ (u : Int) + (u : Int) / 65536 = (v : Int) ∧ v < 4611686018427387904 ∧ v + v / 4294967296 < 4611686018427387904 ∧
    bits .and .i64 ((v : Int) + (v : Int) / 4294967296) 127 = (wt x : Int) := by
  have l1 := s1_lt 8 x
  have l2 := y2_lt 8 x
  have e1 : s1 8 x = (x / 2 &&& 6148914691236517205) + (x &&& 6148914691236517205) := by unfold s1; rw [mk85]
  have e2 : y2 8 x = (s1 8 x / 4 &&& 3689348814741910323) + (s1 8 x &&& 3689348814741910323) := by unfold y2 s2; rw [mk51]
  have e3 : y3 8 x = (y2 8 x / 16 + y2 8 x) &&& 1085102592571150095 := by unfold y3 s3; rw [mk15]
  obtain ⟨a, b, c, d, e, f, g, h, Y0, Y1, Y2, Y3, Y4, Y5, Y6, ⟨ha, hb, hc, hd, he, hf, hg, hh⟩, ⟨h0, h1, h2, h3, h4, h5, h6⟩, hY, hw⟩ := y3_eight x
  obtain ⟨z1, z2, z3, z4, z5⟩ := fold8 a b c d e f g h Y0 Y1 Y2 Y3 Y4 Y5 Y6 ha hb hc hd he hf hg hh h0 h1 h2 h3 h4 h5 h6 _ _ _ rfl rfl rfl
  clear h0 h1 h2 h3 h4 h5 h6 ha hb hc hd he hf hg hh
  rw [← hw] at z5
  have e0 : ((256 : Nat) ^ 8) = 18446744073709551616 := by decide
  rw [e0] at l1 l2
  refine ⟨x / 2 &&& 6148914691236517205, x &&& 6148914691236517205, s1 8 x / 4 &&& 3689348814741910323, s1 8 x &&& 3689348814741910323, y3 8 x, Y0 + Y0 / 256, Y0 + Y0 / 256 + (Y0 + Y0 / 256) / 65536, ⟨?_, ?_⟩, ⟨?_, ?_, ?_⟩, ⟨?_, ?_⟩, ?_, ?_, ?_, ?_, z2, ?_, z3, z1, ?_⟩
  · exact and64 (x / 2) 6148914691236517205 (by omega) (by decide)
  · exact and64 x 6148914691236517205 hx (by decide)
  · have := Nat.and_le_right (n := x / 2) (m := 6148914691236517205); omega
  · have := Nat.and_le_right (n := x) (m := 6148914691236517205); omega
  · rw [← e1]; omega
  · rw [show (((x / 2 &&& 6148914691236517205 : Nat) : Int) + ((x &&& 6148914691236517205 : Nat) : Int)) = ((s1 8 x : Nat) : Int) from by rw [e1]; rfl]
    exact and64 (s1 8 x / 4) 3689348814741910323 (by omega) (by decide)
  · rw [show (((x / 2 &&& 6148914691236517205 : Nat) : Int) + ((x &&& 6148914691236517205 : Nat) : Int)) = ((s1 8 x : Nat) : Int) from by rw [e1]; rfl]
    exact and64 (s1 8 x) 3689348814741910323 (by omega) (by decide)
  · rw [← e2]; omega
  · rw [show (((s1 8 x / 4 &&& 3689348814741910323 : Nat) : Int) + ((s1 8 x &&& 3689348814741910323 : Nat) : Int)) = ((y2 8 x : Nat) : Int) from by rw [e2]; rfl, e3, ← and64 _ _ (by omega) (by decide)]; rfl
  · rw [hY]; omega
  · rw [hY]; rfl
  · rfl
  · rw [i64_and127, ← z5]; rfl

/-! ### sums -/
theorem wtK_xor (k a b : Nat) : wtK k (a ^^^ b) + 2 * wtK k (a &&& b) = wtK k a + wtK k b := by
  induction k generalizing a b with
  | zero => simp [wtK]
  | succ k ih =>
    have h := ih (a / 2) (b / 2)
    have e1 : (a ^^^ b) / 2 = a / 2 ^^^ b / 2 := by have := Nat.xor_div_two_pow (a := a) (b := b) (n := 1); simpa using this
    have e2 : (a &&& b) / 2 = a / 2 &&& b / 2 := by have := Nat.and_div_two_pow (a := a) (b := b) (n := 1); simpa using this
    have e3 : (a ^^^ b) % 2 = (a % 2) ^^^ (b % 2) := by have := Nat.xor_mod_two_pow (a := a) (b := b) (n := 1); simpa using this
    have e4 : (a &&& b) % 2 = (a % 2) &&& (b % 2) := by have := Nat.and_mod_two_pow (a := a) (b := b) (n := 1); simpa using this
    simp only [wtK, e1, e2, e3, e4]
    rcases Nat.mod_two_eq_zero_or_one a with h1 | h1 <;> rcases Nat.mod_two_eq_zero_or_one b with h2 | h2 <;> rw [h1, h2] <;> simp <;> omega
theorem wtK_or (k a b c : Nat) (hc : ∀ i, c.testBit i = (b.testBit i && !a.testBit i) ∨ k ≤ i) : wtK k (a ||| b) = wtK k a + wtK k c := by
  induction k generalizing a b c with
  | zero => simp [wtK]
  | succ k ih =>
    have h := ih (a / 2) (b / 2) (c / 2) (fun i => by
      have := hc (i + 1)
      rw [Nat.testBit_succ, Nat.testBit_succ, Nat.testBit_succ] at this
      rcases this with h | h
      · exact .inl h
      · exact .inr (by omega))
    have e1 : (a ||| b) / 2 = a / 2 ||| b / 2 := by have := Nat.or_div_two_pow (a := a) (b := b) (n := 1); simpa using this
    have e3 : (a ||| b) % 2 = (a % 2) ||| (b % 2) := by have := Nat.or_mod_two_pow (a := a) (b := b) (n := 1); simpa using this
    have h0 := hc 0
    simp only [Nat.testBit_zero] at h0
    simp only [wtK, e1, e3]
    rcases h0 with h0 | h0
    · rcases Nat.mod_two_eq_zero_or_one a with h1 | h1 <;> rcases Nat.mod_two_eq_zero_or_one b with h2 | h2 <;> rcases Nat.mod_two_eq_zero_or_one c with h3 | h3 <;> rw [h1, h2, h3] at h0 <;> rw [h1, h2, h3] <;> simp at h0 <;> simp <;> omega
    · omega

/-- how many numbers below x have the weight k -/
def cntW (k : Int) : Nat → Nat
  | 0 => 0
  | x + 1 => cntW k x + (if (wt x : Int) = k then 1 else 0)
theorem cntW_le (k : Int) (x : Nat) : cntW k x ≤ x := by
  induction x with
  | zero => simp [cntW]
  | succ x ih => simp only [cntW]; split <;> omega
theorem cntW_yes (k : Int) (x : Nat) (h : (wt x : Int) = k) : cntW k (x + 1) = cntW k x + 1 := by simp [cntW, h]
theorem cntW_no (k : Int) (x : Nat) (h : ¬ (wt x : Int) = k) : cntW k (x + 1) = cntW k x := by simp [cntW, h]
theorem cntW_mono (k : Int) (x y : Nat) (h : x ≤ y) : cntW k x ≤ cntW k y := by
  induction y with
  | zero => rw [show x = 0 from by omega]; exact Nat.le_refl _
  | succ y ih =>
    by_cases e : x = y + 1
    · rw [e]; exact Nat.le_refl _
    · have := ih (by omega); simp only [cntW]; omega
/-- the document's example -/
theorem six2 : ∀ x < 16, wt x = 2 → (x = 3 ∧ cntW 2 x = 0) ∨ (x = 5 ∧ cntW 2 x = 1) ∨ (x = 6 ∧ cntW 2 x = 2) ∨ (x = 9 ∧ cntW 2 x = 3) ∨ (x = 10 ∧ cntW 2 x = 4) ∨ (x = 12 ∧ cntW 2 x = 5) := by decide +kernel
theorem six2_end : cntW 2 16 = 6 := by decide +kernel
end Go.Proofs.Ytcpjmfemgdgplaa.Bm
