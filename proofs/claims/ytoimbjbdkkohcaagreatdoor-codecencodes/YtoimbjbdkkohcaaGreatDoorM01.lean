/-
  Texts of one family, one behind another: BitMath, Range, BitW1, BitW2, BitW3, BitW4, BitMath2, DoorTab, Quiet.
-/
import Derived.Laws.BitsAllLaws
import Derived.Lib.TrailingZeros
import Derived.WalkLawsBesides
import Derived.WalkKit
import Derived.RangeFuncNested
import Derived.RangeFuncBound
import Derived.RangeFuncCalls
import Derived.RangeFuncLeaves
import Derived.Test.YtoimbjbdkkohcaaGreatDoorRows
import Derived.WalkSpells
import Derived.Deep.QuietTactic
import Derived.BigQuiet
import Derived.Shelf.Abstract
import Derived.Shelf.RegionOpen
import Derived.Sort.QuietIn
import Derived.Sort.QuietTacIn
import Derived.OwnWalkIn
import Derived.TacticsInMore
import Derived.LoopNIn
import Derived.LoopIn
import Derived.ProofKit
import Derived.LaidMore
import Derived.OpenShut
import Derived.Stop.Joined
import Derived.Lib.LaidTab
import Derived.Sort.QuietThIn
import Derived.Deep.Quiet
import Derived.TacticsIn

/-
  Plain mathematics of layer 3: the weight of a number, by dividing; what the eight steps of a count of ones make of it; sums, and what is left of a word when its lowest one is taken.
-/
namespace Go.Proofs.YtoimbjbdkkohcaaGreatDoor.Bm
open Go Go.RowKit

/-- how many of the lowest k bits of x are ones -/
def wtK : Nat → Nat → Nat
  | 0, _ => 0
  | k + 1, x => x % 2 + wtK k (x / 2)
/-- the weight of a word of at most 64 bits -/
def wt (x : Nat) : Nat := wtK 64 x

theorem wtK_zero (k : Nat) : wtK k 0 = 0 := by induction k with
  | zero => rfl
  | succ k ih => simp [wtK, ih]
theorem wtK_le (k x : Nat) : wtK k x ≤ k := by
  induction k generalizing x with
  | zero => simp [wtK]
  | succ k ih => have := ih (x / 2); simp only [wtK]; omega
theorem wtK_add (a b x : Nat) : wtK (a + b) x = wtK a x + wtK b (x / 2 ^ a) := by
  induction a generalizing x with
  | zero => simp [wtK]
  | succ a ih =>
    rw [show a + 1 + b = (a + b) + 1 from by omega]
    simp only [wtK, ih, Nat.div_div_eq_div_mul]
    rw [show 2 * 2 ^ a = 2 ^ (a + 1) from by rw [Nat.pow_succ]; omega]
    omega
theorem wtK_succ_hi (k x : Nat) : wtK (k + 1) x = wtK k x + x / 2 ^ k % 2 := by
  rw [wtK_add]; simp [wtK]
theorem wtK_mod (k x : Nat) : wtK k (x % 2 ^ k) = wtK k x := by
  induction k generalizing x with
  | zero => rfl
  | succ k ih =>
    simp only [wtK]
    have e1 : x % 2 ^ (k + 1) % 2 = x % 2 := Nat.mod_mod_of_dvd x ⟨2 ^ k, by rw [Nat.pow_succ]; omega⟩
    have e2 : x % 2 ^ (k + 1) / 2 = x / 2 % 2 ^ k := by
      rw [Nat.pow_succ, Nat.mul_comm, Nat.mod_mul_right_div_self]
    rw [e1, e2, ih]
theorem wtK_big (k j x : Nat) (h : x < 2 ^ k) : wtK (k + j) x = wtK k x := by
  rw [wtK_add, Nat.div_eq_of_lt h, wtK_zero]; omega
theorem wtK_wt (k x : Nat) (hk : k ≤ 64) (h : x < 2 ^ k) : wtK k x = wt x := by
  have := wtK_big k (64 - k) x h
  rw [show k + (64 - k) = 64 from by omega] at this
  exact this.symm
theorem wt_step (x : Nat) (h : x < 18446744073709551616) : wt x = x % 2 + wt (x / 2) := by
  have e : wt (x / 2) = wtK 63 (x / 2) := by
    have := wtK_big 63 1 (x / 2) (by omega)
    exact this
  rw [e]; rfl
theorem wt_zero : wt 0 = 0 := wtK_zero 64
theorem wt_le (x : Nat) : wt x ≤ 64 := wtK_le 64 x

/-! ### a count of ones by eight steps -/
theorem and_split (a m c : Nat) (hc : c < 256) : a &&& (256 * m + c) = 256 * (a / 256 &&& m) + (a % 256 &&& c) := by
  have h1 : (a &&& (256 * m + c)) / 2 ^ 8 = a / 2 ^ 8 &&& (256 * m + c) / 2 ^ 8 := by rw [Nat.and_div_two_pow]
  have h2 : (a &&& (256 * m + c)) % 2 ^ 8 = a % 2 ^ 8 &&& (256 * m + c) % 2 ^ 8 := by rw [Nat.and_mod_two_pow]
  have e1 : (256 * m + c) / 2 ^ 8 = m := by omega
  have e2 : (256 * m + c) % 2 ^ 8 = c := by omega
  rw [e1] at h1; rw [e2] at h2
  have := Nat.div_add_mod (a &&& (256 * m + c)) (2 ^ 8)
  rw [h1, h2] at this
  exact this.symm
/-- k bytes c -/
def mk (c : Nat) : Nat → Nat
  | 0 => 0
  | k + 1 => 256 * mk c k + c
def s1 (k x : Nat) : Nat := (x / 2 &&& mk 85 k) + (x &&& mk 85 k)
def s2 (k x : Nat) : Nat := (x / 4 &&& mk 51 k) + (x &&& mk 51 k)
def s3 (k x : Nat) : Nat := (x / 16 + x) &&& mk 15 k
def t1 (c : Nat) : Nat := (c / 2 &&& 85) + (c &&& 85)
def t2 (c : Nat) : Nat := (c / 4 &&& 51) + (c &&& 51)
theorem c1 : ∀ r < 512, r / 2 % 256 &&& 85 = r % 256 / 2 &&& 85 := by decide +kernel
theorem c2 : ∀ r < 1024, r / 4 % 256 &&& 51 = r % 256 / 4 &&& 51 := by decide +kernel
theorem b1 : ∀ r < 256, t1 r < 256 := by decide +kernel
theorem b2 : ∀ r < 256, t2 (t1 r) < 69 ∧ t2 (t1 r) % 16 < 5 := by decide +kernel
theorem p8 : ∀ r < 256, (t2 (t1 r) / 16 + t2 (t1 r)) % 16 = wtK 8 r := by decide +kernel
theorem s1_step (k x : Nat) : s1 (k + 1) x = 256 * s1 k (x / 256) + t1 (x % 256) := by
  unfold s1 t1
  rw [show mk 85 (k + 1) = 256 * mk 85 k + 85 from rfl, and_split _ _ _ (by decide), and_split x _ _ (by decide)]
  have e := c1 (x % 512) (by omega)
  rw [show x % 512 / 2 % 256 = x / 2 % 256 from by omega, show x % 512 % 256 = x % 256 from by omega] at e
  rw [e, show x / 2 / 256 = x / 256 / 2 from by omega]
  omega
theorem s2_step (k x : Nat) : s2 (k + 1) x = 256 * s2 k (x / 256) + t2 (x % 256) := by
  unfold s2 t2
  rw [show mk 51 (k + 1) = 256 * mk 51 k + 51 from rfl, and_split _ _ _ (by decide), and_split x _ _ (by decide)]
  have e := c2 (x % 1024) (by omega)
  rw [show x % 1024 / 4 % 256 = x / 4 % 256 from by omega, show x % 1024 % 256 = x % 256 from by omega] at e
  rw [e, show x / 4 / 256 = x / 256 / 4 from by omega]
  omega
/-- the bytes of the first two steps, one by one -/
def y2 (k x : Nat) : Nat := s2 k (s1 k x)
theorem y2_step (k x : Nat) : y2 (k + 1) x = 256 * y2 k (x / 256) + t2 (t1 (x % 256)) := by
  have h := b1 (x % 256) (by omega)
  unfold y2
  rw [s1_step, s2_step]
  rw [show (256 * s1 k (x / 256) + t1 (x % 256)) / 256 = s1 k (x / 256) from by omega, show (256 * s1 k (x / 256) + t1 (x % 256)) % 256 = t1 (x % 256) from by omega]
theorem y2_low (k x : Nat) : y2 k x % 16 < 5 := by
  cases k with
  | zero => simp [y2, s2, s1, mk]
  | succ k => have := b2 (x % 256) (by omega); rw [y2_step]; omega
theorem s3_step (k q c : Nat) (hc : c < 69) (_hc' : c % 16 < 5) (hq : q % 16 < 5) : s3 (k + 1) (256 * q + c) = 256 * s3 k q + (c / 16 + c) % 16 := by
  unfold s3
  rw [show mk 15 (k + 1) = 256 * mk 15 k + 15 from rfl, and_split _ _ _ (by decide)]
  rw [show ((256 * q + c) / 16 + (256 * q + c)) / 256 = q / 16 + q from by omega, nat_mask4]
  omega
def y3 (k x : Nat) : Nat := s3 k (y2 k x)
theorem y3_step (k x : Nat) : y3 (k + 1) x = 256 * y3 k (x / 256) + wtK 8 (x % 256) := by
  have h := b2 (x % 256) (by omega)
  unfold y3
  rw [y2_step, s3_step _ _ _ h.1 h.2 (y2_low _ _), p8 _ (by omega)]
theorem wtK8 (k x : Nat) : wtK (8 + k) x = wtK 8 (x % 256) + wtK k (x / 256) := by
  rw [wtK_add, ← wtK_mod 8 x]
/-- what the last four steps make of eight bytes -/
theorem low (x r q : Nat) (h : x = r + 256 * q) (hr : r ≤ 64) : x / 256 = q ∧ x % 128 = r % 128 := by omega
theorem le2 {a b : Nat} (ha : a ≤ 8) (hb : b ≤ 8) : a + b ≤ 64 := by omega
theorem le4 {a b c d : Nat} (ha : a ≤ 8) (hb : b ≤ 8) (hc : c ≤ 8) (hd : d ≤ 8) : a + b + (c + d) ≤ 64 := by omega
theorem le8 {a b c d e f g h : Nat} (ha : a ≤ 8) (hb : b ≤ 8) (hc : c ≤ 8) (hd : d ≤ 8) (he : e ≤ 8) (hf : f ≤ 8) (hg : g ≤ 8) (hh : h ≤ 8) : a + b + (c + d) + (e + f + (g + h)) ≤ 64 := by omega
theorem up (x r q N M : Nat) (h : x = r + 256 * q) (hr : r ≤ 8) (hq : q ≤ N) (hM : 8 + 256 * N ≤ M) : x ≤ M := by omega
theorem two (X x Y y r s q p : Nat) (hX : X = x) (hY : Y = y) (h : x = r + 256 * q) (k : y = s + 256 * p) : X + Y = (r + s) + 256 * (q + p) := by omega
theorem six {Y g h : Nat} (h6 : Y = g + 256 * h) : Y + h = (g + h) + 256 * h := by omega
theorem fold8 (a b c d e f g h Y0 Y1 Y2 Y3 Y4 Y5 Y6 : Nat) (ha : a ≤ 8) (hb : b ≤ 8) (hc : c ≤ 8) (hd : d ≤ 8) (he : e ≤ 8) (hf : f ≤ 8) (hg : g ≤ 8) (hh : h ≤ 8)
    (h0 : Y0 = a + 256 * Y1) (h1 : Y1 = b + 256 * Y2) (h2 : Y2 = c + 256 * Y3) (h3 : Y3 = d + 256 * Y4) (h4 : Y4 = e + 256 * Y5) (h5 : Y5 = f + 256 * Y6) (h6 : Y6 = g + 256 * h)
    (u v z : Nat) (hu : u = Y0 + Y0 / 256) (hv : v = u + u / 65536) (hz : z = v + v / 4294967296) :
    z < 4611686018427387904 ∧ u < 4611686018427387904 ∧ v < 4611686018427387904 ∧ Y0 < 4611686018427387904 ∧ z % 128 = a + b + c + d + e + f + g + h := by
  have b6 := up _ _ _ 8 2056 h6 hg hh (by decide)
  have b5 := up _ _ _ _ 526344 h5 hf b6 (by decide)
  have b4 := up _ _ _ _ 134744072 h4 he b5 (by decide)
  have b3 := up _ _ _ _ 34494482440 h3 hd b4 (by decide)
  have b2 := up _ _ _ _ 8830587504648 h2 hc b3 (by decide)
  have b1 := up _ _ _ _ 2260630401189896 h1 hb b2 (by decide)
  have b0 := up _ _ _ _ 578721382704613384 h0 ha b1 (by decide)
  have hu' : u = Y0 + Y1 := by rw [hu, (low _ _ _ h0 (Nat.le_trans ha (by decide))).1]
  -- the bytes of u
  have u0 := two _ _ _ _ _ _ _ _ rfl rfl h0 h1
  have u1 := two _ _ _ _ _ _ _ _ rfl rfl h1 h2
  have u2 := two _ _ _ _ _ _ _ _ rfl rfl h2 h3
  have u3 := two _ _ _ _ _ _ _ _ rfl rfl h3 h4
  have u4 := two _ _ _ _ _ _ _ _ rfl rfl h4 h5
  have u5 := two _ _ _ _ _ _ _ _ rfl rfl h5 h6
  have u6 : Y6 + h = (g + h) + 256 * h := six h6
  have hv' : v = (Y0 + Y1) + (Y2 + Y3) := by
    rw [hv, hu', show (65536 : Nat) = 256 * 256 from rfl, ← Nat.div_div_eq_div_mul, (low _ _ _ u0 (le2 ha hb)).1, (low _ _ _ u1 (le2 hb hc)).1]
  have v0 := two _ _ _ _ _ _ _ _ rfl rfl u0 u2
  have v1 := two _ _ _ _ _ _ _ _ rfl rfl u1 u3
  have v2 := two _ _ _ _ _ _ _ _ rfl rfl u2 u4
  have v3 := two _ _ _ _ _ _ _ _ rfl rfl u3 u5
  have v4 := two _ _ _ _ _ _ _ _ rfl rfl u4 u6
  have hz' : z = ((Y0 + Y1) + (Y2 + Y3)) + ((Y4 + Y5) + (Y6 + h)) := by
    rw [hz, hv', show (4294967296 : Nat) = 256 * 256 * 256 * 256 from rfl, ← Nat.div_div_eq_div_mul, ← Nat.div_div_eq_div_mul, ← Nat.div_div_eq_div_mul,
      (low _ _ _ v0 (le4 ha hb hc hd)).1, (low _ _ _ v1 (le4 hb hc hd he)).1, (low _ _ _ v2 (le4 hc hd he hf)).1, (low _ _ _ v3 (le4 hd he hf hg)).1]
  have z0 := two _ _ _ _ _ _ _ _ rfl rfl v0 v4
  have hm := (low _ _ _ (hz'.trans z0) (le8 ha hb hc hd he hf hg hh)).2
  clear z0 v0 v1 v2 v3 v4 u0 u1 u2 u3 u4 u5 u6 h0 h1 h2 h3 h4 h5 h6 hu hv hz
  refine ⟨by omega, by omega, by omega, by omega, ?_⟩
  rw [hm]; omega
theorem y3_eight (x : Nat) : ∃ a b c d e f g h Y0 Y1 Y2 Y3 Y4 Y5 Y6 : Nat, (a ≤ 8 ∧ b ≤ 8 ∧ c ≤ 8 ∧ d ≤ 8 ∧ e ≤ 8 ∧ f ≤ 8 ∧ g ≤ 8 ∧ h ≤ 8) ∧
    (Y0 = a + 256 * Y1 ∧ Y1 = b + 256 * Y2 ∧ Y2 = c + 256 * Y3 ∧ Y3 = d + 256 * Y4 ∧ Y4 = e + 256 * Y5 ∧ Y5 = f + 256 * Y6 ∧ Y6 = g + 256 * h) ∧ y3 8 x = Y0 ∧ wt x = a + b + c + d + e + f + g + h := by
  have st : ∀ k x, y3 (k + 1) x = wtK 8 (x % 256) + 256 * y3 k (x / 256) := fun k x => by rw [y3_step]; omega
  refine ⟨_, _, _, _, _, _, _, y3 1 (x / 256 / 256 / 256 / 256 / 256 / 256 / 256), y3 8 x, y3 7 (x / 256), y3 6 (x / 256 / 256), y3 5 (x / 256 / 256 / 256), y3 4 (x / 256 / 256 / 256 / 256), y3 3 (x / 256 / 256 / 256 / 256 / 256), y3 2 (x / 256 / 256 / 256 / 256 / 256 / 256),
    ⟨wtK_le 8 _, wtK_le 8 _, wtK_le 8 _, wtK_le 8 _, wtK_le 8 _, wtK_le 8 _, wtK_le 8 _, ?_⟩, ⟨st 7 _, st 6 _, st 5 _, st 4 _, st 3 _, st 2 _, st 1 _⟩, rfl, ?_⟩
  · rw [st 0]; have := wtK_le 8 (x / 256 / 256 / 256 / 256 / 256 / 256 / 256 % 256); have : y3 0 (x / 256 / 256 / 256 / 256 / 256 / 256 / 256 / 256) = 0 := by simp [y3, s3, mk]
    omega
  · have e0 : y3 0 (x / 256 / 256 / 256 / 256 / 256 / 256 / 256 / 256) = 0 := by simp [y3, s3, mk]
    rw [st 0, e0]
    unfold wt
    rw [show (64 : Nat) = 8 + (8 + (8 + (8 + (8 + (8 + (8 + (8 + 0))))))) from rfl, wtK8, wtK8, wtK8, wtK8, wtK8, wtK8, wtK8, wtK8]
    simp only [wtK]
    omega
theorem mk85 : mk 85 8 = 6148914691236517205 := by decide
theorem mk51 : mk 51 8 = 3689348814741910323 := by decide
theorem mk15 : mk 15 8 = 1085102592571150095 := by decide

theorem s1_lt (k x : Nat) : s1 k x < 256 ^ k := by
  induction k generalizing x with
  | zero => simp [s1, mk]
  | succ k ih =>
    have := ih (x / 256); have := b1 (x % 256) (by omega)
    rw [s1_step, Nat.pow_succ]; omega
theorem y2_lt (k x : Nat) : 255 * y2 k x + 68 ≤ 68 * 256 ^ k := by
  induction k generalizing x with
  | zero => simp [y2, s2, s1, mk]
  | succ k ih =>
    have := ih (x / 256); have := (b2 (x % 256) (by omega)).1
    rw [y2_step, Nat.pow_succ]; omega
theorem and64 (a : Nat) (m : Nat) (ha : a < 18446744073709551616) (hm : m < 18446744073709551616) : bits .and .u64 (a : Int) (m : Int) = ((a &&& m : Nat) : Int) := u64_and_nat a m ha hm
/-- the eight steps over 64 bits -/
theorem ones64 (x : Nat) (hx : x < 18446744073709551616) : ∃ a1 a2 b1 b2 c u v : Nat,
    (bits .and .u64 ((x : Int) / 2) 6148914691236517205 = (a1 : Int) ∧ bits .and .u64 (x : Int) 6148914691236517205 = (a2 : Int)) ∧ (a1 < 18446744073709551616 ∧ a2 < 18446744073709551616 ∧ a1 + a2 < 18446744073709551616) ∧
    (bits .and .u64 (((a1 : Int) + (a2 : Int)) / 4) 3689348814741910323 = (b1 : Int) ∧ bits .and .u64 ((a1 : Int) + (a2 : Int)) 3689348814741910323 = (b2 : Int)) ∧ (b1 + b2 < 4919131752989213765) ∧
    bits .and .u64 (((b1 : Int) + (b2 : Int)) / 16 + ((b1 : Int) + (b2 : Int))) 1085102592571150095 = (c : Int) ∧ c < 4611686018427387904 ∧
    (c : Int) + (c : Int) / 256 = (u : Int) ∧ u < 4611686018427387904 ∧ (u : Int) + (u : Int) / 65536 = (v : Int) ∧ v < 4611686018427387904 ∧ v + v / 4294967296 < 4611686018427387904 ∧
    bits .and .i64 ((v : Int) + (v : Int) / 4294967296) 127 = (wt x : Int) := by
  have l1 := s1_lt 8 x
  have l2 := y2_lt 8 x
  have e1 : s1 8 x = (x / 2 &&& 6148914691236517205) + (x &&& 6148914691236517205) := by unfold s1; rw [mk85]
  have e2 : y2 8 x = (s1 8 x / 4 &&& 3689348814741910323) + (s1 8 x &&& 3689348814741910323) := by unfold y2 s2; rw [mk51]
  have e3 : y3 8 x = (y2 8 x / 16 + y2 8 x) &&& 1085102592571150095 := by unfold y3 s3; rw [mk15]
  obtain ⟨a, b, c, d, e, f, g, h, Y0, Y1, Y2, Y3, Y4, Y5, Y6, ⟨ha, hb, hc, hd, he, hf, hg, hh⟩, ⟨h0, h1, h2, h3, h4, h5, h6⟩, hY, hw⟩ := y3_eight x
  obtain ⟨z1, z2, z3, z4, z5⟩ := fold8 a b c d e f g h Y0 Y1 Y2 Y3 Y4 Y5 Y6 ha hb hc hd he hf hg hh h0 h1 h2 h3 h4 h5 h6 _ _ _ rfl rfl rfl
  clear h0 h1 h2 h3 h4 h5 h6 ha hb hc hd he hf hg hh
  rw [← hw] at z5
  have e0 : ((256 : Nat) ^ 8) = 18446744073709551616 := by decide
  rw [e0] at l1 l2
  refine ⟨x / 2 &&& 6148914691236517205, x &&& 6148914691236517205, s1 8 x / 4 &&& 3689348814741910323, s1 8 x &&& 3689348814741910323, y3 8 x, Y0 + Y0 / 256, Y0 + Y0 / 256 + (Y0 + Y0 / 256) / 65536, ⟨?_, ?_⟩, ⟨?_, ?_, ?_⟩, ⟨?_, ?_⟩, ?_, ?_, ?_, ?_, z2, ?_, z3, z1, ?_⟩
  · exact and64 (x / 2) 6148914691236517205 (by omega) (by decide)
  · exact and64 x 6148914691236517205 hx (by decide)
  · have := Nat.and_le_right (n := x / 2) (m := 6148914691236517205); omega
  · have := Nat.and_le_right (n := x) (m := 6148914691236517205); omega
  · rw [← e1]; omega
  · rw [show (((x / 2 &&& 6148914691236517205 : Nat) : Int) + ((x &&& 6148914691236517205 : Nat) : Int)) = ((s1 8 x : Nat) : Int) from by rw [e1]; rfl]
    exact and64 (s1 8 x / 4) 3689348814741910323 (by omega) (by decide)
  · rw [show (((x / 2 &&& 6148914691236517205 : Nat) : Int) + ((x &&& 6148914691236517205 : Nat) : Int)) = ((s1 8 x : Nat) : Int) from by rw [e1]; rfl]
    exact and64 (s1 8 x) 3689348814741910323 (by omega) (by decide)
  · rw [← e2]; omega
  · rw [show (((s1 8 x / 4 &&& 3689348814741910323 : Nat) : Int) + ((s1 8 x &&& 3689348814741910323 : Nat) : Int)) = ((y2 8 x : Nat) : Int) from by rw [e2]; rfl, e3, ← and64 _ _ (by omega) (by decide)]; rfl
  · rw [hY]; omega
  · rw [hY]; rfl
  · rfl
  · rw [i64_and127, ← z5]; rfl

/-! ### sums -/
theorem wtK_xor (k a b : Nat) : wtK k (a ^^^ b) + 2 * wtK k (a &&& b) = wtK k a + wtK k b := by
  induction k generalizing a b with
  | zero => simp [wtK]
  | succ k ih =>
    have h := ih (a / 2) (b / 2)
    have e1 : (a ^^^ b) / 2 = a / 2 ^^^ b / 2 := by have := Nat.xor_div_two_pow (a := a) (b := b) (n := 1); simpa using this
    have e2 : (a &&& b) / 2 = a / 2 &&& b / 2 := by have := Nat.and_div_two_pow (a := a) (b := b) (n := 1); simpa using this
    have e3 : (a ^^^ b) % 2 = (a % 2) ^^^ (b % 2) := by have := Nat.xor_mod_two_pow (a := a) (b := b) (n := 1); simpa using this
    have e4 : (a &&& b) % 2 = (a % 2) &&& (b % 2) := by have := Nat.and_mod_two_pow (a := a) (b := b) (n := 1); simpa using this
    simp only [wtK, e1, e2, e3, e4]
    rcases Nat.mod_two_eq_zero_or_one a with h1 | h1 <;> rcases Nat.mod_two_eq_zero_or_one b with h2 | h2 <;> rw [h1, h2] <;> simp <;> omega
theorem wtK_or (k a b c : Nat) (hc : ∀ i, c.testBit i = (b.testBit i && !a.testBit i) ∨ k ≤ i) : wtK k (a ||| b) = wtK k a + wtK k c := by
  induction k generalizing a b c with
  | zero => simp [wtK]
  | succ k ih =>
    have h := ih (a / 2) (b / 2) (c / 2) (fun i => by
      have := hc (i + 1)
      rw [Nat.testBit_succ, Nat.testBit_succ, Nat.testBit_succ] at this
      rcases this with h | h
      · exact .inl h
      · exact .inr (by omega))
    have e1 : (a ||| b) / 2 = a / 2 ||| b / 2 := by have := Nat.or_div_two_pow (a := a) (b := b) (n := 1); simpa using this
    have e3 : (a ||| b) % 2 = (a % 2) ||| (b % 2) := by have := Nat.or_mod_two_pow (a := a) (b := b) (n := 1); simpa using this
    have h0 := hc 0
    simp only [Nat.testBit_zero] at h0
    simp only [wtK, e1, e3]
    rcases h0 with h0 | h0
    · rcases Nat.mod_two_eq_zero_or_one a with h1 | h1 <;> rcases Nat.mod_two_eq_zero_or_one b with h2 | h2 <;> rcases Nat.mod_two_eq_zero_or_one c with h3 | h3 <;> rw [h1, h2, h3] at h0 <;> rw [h1, h2, h3] <;> simp at h0 <;> simp <;> omega
    · omega

/-- how many numbers below x have the weight k -/
def cntW (k : Int) : Nat → Nat
  | 0 => 0
  | x + 1 => cntW k x + (if (wt x : Int) = k then 1 else 0)
theorem cntW_le (k : Int) (x : Nat) : cntW k x ≤ x := by
  induction x with
  | zero => simp [cntW]
  | succ x ih => simp only [cntW]; split <;> omega
theorem cntW_yes (k : Int) (x : Nat) (h : (wt x : Int) = k) : cntW k (x + 1) = cntW k x + 1 := by simp [cntW, h]
theorem cntW_no (k : Int) (x : Nat) (h : ¬ (wt x : Int) = k) : cntW k (x + 1) = cntW k x := by simp [cntW, h]
theorem cntW_mono (k : Int) (x y : Nat) (h : x ≤ y) : cntW k x ≤ cntW k y := by
  induction y with
  | zero => rw [show x = 0 from by omega]; exact Nat.le_refl _
  | succ y ih =>
    by_cases e : x = y + 1
    · rw [e]; exact Nat.le_refl _
    · have := ih (by omega); simp only [cntW]; omega
/-- the document's example -/
theorem six2 : ∀ x < 16, wt x = 2 → (x = 3 ∧ cntW 2 x = 0) ∨ (x = 5 ∧ cntW 2 x = 1) ∨ (x = 6 ∧ cntW 2 x = 2) ∨ (x = 9 ∧ cntW 2 x = 3) ∨ (x = 10 ∧ cntW 2 x = 4) ∨ (x = 12 ∧ cntW 2 x = 5) := by decide +kernel
theorem six2_end : cntW 2 16 = 6 := by decide +kernel
end Go.Proofs.YtoimbjbdkkohcaaGreatDoor.Bm

/-
  A range over a function, as this project meets it: an iterator goes with a cursor over the numbers below N and hands on those that fit; it may itself range over another one. What the loop's body must keep is all that is not the caller's own; what the iterator may turn is what it laid itself.
-/
namespace Go.Proofs.YtoimbjbdkkohcaaGreatDoor
open Go.RowKit

/-- what lay below B lies; all cells lie; all else may have turned, and more may have come -/
structure Stay (B : Nat) (W W' : World) : Prop where
  os : W'.os = W.os
  tape : W'.tape = W.tape
  output : W'.output = W.output
  size : W.heap.size ≤ W'.heap.size
  cells : ∀ (b : Nat) (o : Obj), W.heap[b]? = some o → o.isCells = true → W'.heap[b]? = some o
  low : ∀ b, b < B → W'.heap[b]? = W.heap[b]?
theorem Stay.mono {B B' : Nat} {W W' : World} (h : Stay B W W') (hB : B' ≤ B) : Stay B' W W' := ⟨h.os, h.tape, h.output, h.size, h.cells, fun b hb => h.low b (by omega)⟩
theorem Stay.trans {B : Nat} {X Y Z : World} (h : Stay B X Y) (k : Stay B Y Z) : Stay B X Z :=
  ⟨k.os.trans h.os, k.tape.trans h.tape, k.output.trans h.output, Nat.le_trans h.size k.size, fun b o hb ho => k.cells b o (h.cells b o hb ho) ho, fun b hb => (k.low b hb).trans (h.low b hb)⟩
theorem Stay.refl (B : Nat) (W : World) : Stay B W W := ⟨rfl, rfl, rfl, Nat.le_refl _, fun _ _ h _ => h, fun _ _ => rfl⟩
theorem Stay.alloc (B : Nat) (W : World) (o : Obj) (hB : B ≤ W.heap.size) : Stay B W (W.alloc o) :=
  ⟨rfl, rfl, rfl, by simp, fun b o' hb _ => (Below.heap_alloc W o b (Array.getElem?_eq_some_iff.1 hb).1).trans hb, fun b hb => Below.heap_alloc W o b (by omega)⟩
theorem Stay.drewN (B : Nat) (W : World) (k : Nat) : Stay B W (W.drewN k) := ⟨rfl, rfl, rfl, Nat.le_refl _, fun _ _ h _ => h, fun _ _ => rfl⟩
theorem Stay.putObj {B : Nat} {W : World} {l : Nat} {o : Obj} (o' : Obj) (hl : W.heap[l]? = some o) (ho : o.isCells = false) (hB : B ≤ l) : Stay B W (W.putObj l o') :=
  ⟨rfl, rfl, rfl, by simp, fun b x hb hx => (World.putObj_heap_other (by intro e; subst e; rw [hl] at hb; cases hb; rw [ho] at hx; cases hx)).trans hb, fun b hb => World.putObj_heap_other (by omega)⟩
theorem below_stay {B C : Nat} {w W W' : World} (h : Below C w W) (k : Stay B W W') (hB : C ≤ B) : Below C w W' :=
  ⟨k.os.trans h.os, k.tape.trans h.tape, k.output.trans h.output, Nat.le_trans h.size k.size, fun b hb => (k.low b (by omega)).trans (h.block b hb)⟩
theorem isCells_of_cell {W : World} {b o : Nat} {v : Value} (h : W.cell? ⟨b, o, none⟩ = some v) : ∃ x, W.heap[b]? = some x ∧ x.isCells = true := by
  cases hb : W.heap[b]? with
  | none => simp [World.cell?, hb] at h
  | some x =>
    refine ⟨x, rfl, ?_⟩
    cases x <;> simp [World.cell?, hb] at h <;> rfl
theorem Stay.cell {B : Nat} {W W' : World} (k : Stay B W W') {b o : Nat} {v : Value} (h : W.cell? ⟨b, o, none⟩ = some v) : W'.cell? ⟨b, o, none⟩ = some v := by
  obtain ⟨x, hx, hc⟩ := isCells_of_cell h
  rw [← h]
  exact World.cell?_of_block (w := W) ((k.cells b x hx hc).trans hx.symm)
/-- a variable's box: it holds v and may be written -/
def Box (W : World) (b : Nat) (v : Value) : Prop := W.cell? ⟨b, 0, none⟩ = some v ∧ W.frozen? ⟨b, 0, none⟩ = false
theorem Box.lt {W : World} {b : Nat} {v : Value} (h : Box W b v) : b < W.heap.size := by
  obtain ⟨x, hx, _⟩ := isCells_of_cell h.1
  exact (Array.getElem?_eq_some_iff.1 hx).1
theorem Box.of {W W' : World} {b : Nat} {v : Value} (h : Box W b v) (k : W'.heap[b]? = W.heap[b]?) : Box W' b v :=
  ⟨(World.cell?_of_block (w := W) k).trans h.1, (World.frozen?_of_block (w := W) k).trans h.2⟩
theorem Box.stay {B : Nat} {W W' : World} (k : Stay B W W') {b : Nat} {v : Value} (h : Box W b v) : Box W' b v := by
  obtain ⟨x, hx, hc⟩ := isCells_of_cell h.1
  exact h.of ((k.cells b x hx hc).trans hx.symm)
theorem Box.new (W : World) (t : TypeId) (v : Value) : Box (W.alloc (.cells #[v] t)) W.heap.size v :=
  ⟨(Boxed.new W t v).cell, (Boxed.new W t v).frozen⟩
theorem Box.alloc {W : World} {b : Nat} {v : Value} (h : Box W b v) (o : Obj) : Box (W.alloc o) b v := h.of (Below.heap_alloc W o b h.lt)
theorem Box.drewN {W : World} {b : Nat} {v : Value} (h : Box W b v) (k : Nat) : Box (W.drewN k) b v := h
theorem Box.set {W : World} {b : Nat} {v : Value} (h : Box W b v) (u : Value) : Box (W.setCell ⟨b, 0, none⟩ u) b u :=
  ⟨World.cell?_setCell_same' _ _ _ (by rw [h.1]; rfl), by rw [World.frozen?_setCell]; exact h.2⟩
theorem Box.other {W : World} {b c : Nat} {v : Value} (h : Box W b v) (hne : b ≠ c) (u : Value) : Box (W.setCell ⟨c, 0, none⟩ u) b v :=
  h.of (Below.heap_setCell W _ u b hne)
theorem Box.below {C : Nat} {W W' : World} {b : Nat} {v : Value} (h : Box W b v) (k : Below C W W') (hb : b < C) : Box W' b v := h.of (k.block b hb)

/-- all that is not M's lies as it lay -/
def Keep (M : Nat → Prop) (W W' : World) : Prop := W.heap.size ≤ W'.heap.size ∧ ∀ b, b < W.heap.size → ¬ M b → W'.heap[b]? = W.heap[b]?
theorem Keep.refl (M : Nat → Prop) (W : World) : Keep M W W := ⟨Nat.le_refl _, fun _ _ _ => rfl⟩
theorem Keep.trans {M : Nat → Prop} {X Y Z : World} (h : Keep M X Y) (k : Keep M Y Z) : Keep M X Z :=
  ⟨Nat.le_trans h.1 k.1, fun b hb hm => (k.2 b (Nat.lt_of_lt_of_le hb h.1) hm).trans (h.2 b hb hm)⟩
theorem Keep.mono {M M' : Nat → Prop} {X Y : World} (h : Keep M X Y) (k : ∀ b, M b → M' b) : Keep M' X Y := ⟨h.1, fun b hb hm => h.2 b hb fun e => hm (k b e)⟩
theorem Keep.alloc {M : Nat → Prop} {X Y : World} (h : Keep M X Y) (o : Obj) : Keep M X (Y.alloc o) :=
  h.trans ⟨by simp, fun b hb _ => Below.heap_alloc Y o b hb⟩
theorem Keep.drewN {M : Nat → Prop} {X Y : World} (h : Keep M X Y) (k : Nat) : Keep M X (Y.drewN k) := h
theorem Keep.set {M : Nat → Prop} {X Y : World} (h : Keep M X Y) {c : Nat} (hc : M c) (u : Value) : Keep M X (Y.setCell ⟨c, 0, none⟩ u) :=
  h.trans ⟨by simp, fun b _ hm => Below.heap_setCell Y _ u b (fun e => hm (by subst e; exact hc))⟩
theorem Keep.putObj {M : Nat → Prop} {X Y : World} (h : Keep M X Y) {c : Nat} (hc : M c) (o : Obj) : Keep M X (Y.putObj c o) :=
  h.trans ⟨by simp, fun b _ hm => World.putObj_heap_other (fun e => hm (by subst e; exact hc))⟩
theorem Keep.below {M : Nat → Prop} {C : Nat} {X Y : World} (h : Below C X Y) (hC : X.heap.size ≤ C) : Keep M X Y := ⟨h.size, fun b hb _ => h.block b (by omega)⟩
theorem Keep.stay {M : Nat → Prop} {B : Nat} {X Y : World} (h : Stay B X Y) (hC : X.heap.size ≤ B) : Keep M X Y := ⟨h.size, fun b hb _ => h.low b (by omega)⟩
theorem Keep.box {M : Nat → Prop} {X Y : World} {b : Nat} {v : Value} (h : Keep M X Y) (hb : Box X b v) (hm : ¬ M b) : Box Y b v := hb.of (h.2 b hb.lt hm)

/-- J does not mind what an iterator does that was called where B blocks lay -/
def Abide (B : Nat) (J : Nat → World → Prop) : Prop := ∀ x W W', J x W → Stay B W W' → J x W'
theorem Abide.mono {B B' : Nat} {J : Nat → World → Prop} (h : Abide B J) (hB : B ≤ B') : Abide B' J := fun x W W' hj hs => h x W W' hj (hs.mono hB)

theorem yieldAt_any {P : Program} {m m' l : Nat} {args : Array Value} {W : World} {R : Ending → World → Prop} (h : YieldAt Fence.wide m P l args W R) : YieldAt Fence.wide m' P l args W R := by
  obtain ⟨fn, tmps, assign, body, hy, hf, hr⟩ := h
  exact ⟨fn, tmps, assign, body, hy, hf, fun c cs _ => hr c cs (room_wide _)⟩

/-- AN ITERATOR's CONTRACT: the function g with what it holds, lb, made in w: it hands on, of the numbers x below N, rising, those that fit (p x), as 'enc x', as far as it is asked; it reads the blocks T between two rounds. -/
def SeqC (P : Program) (g : Nat) (lb : Array Value) (enc : Nat → Array Value) (N : Nat) (p : Nat → Prop) (T : Nat → Prop) (w : World) : Prop :=
  ∀ (l : Nat) (M : Nat → Prop) (J Jx : Nat → World → Prop) (W : World), Below w.heap.size w W → (∀ b, M b → b < W.heap.size ∧ ¬ T b) → Abide W.heap.size J → Abide W.heap.size Jx →
    (∀ x W1, x < N → ¬ p x → J x W1 → J (x + 1) W1) →
    (∀ x W1, x < N → p x → J x W1 → YieldAt Fence.wide 8 P l (enc x) W1 fun e W' => (e = .returned (.bool true) ∧ J (x + 1) W' ∧ Keep M W1 W') ∨ (e = .returned (.bool false) ∧ Jx x W' ∧ Keep M W1 W')) →
    J 0 W → CallsIn Fence.wide 9 P g (#[.func (.yield l) #[] #[]] ++ lb) W fun e W' => (∃ v, e = .returned v) ∧ (J N W' ∨ ∃ x, x < N ∧ p x ∧ Jx x W')

/-- how a body may be left that met x -/
def postC (M : Nat → Prop) (I : Nat → World → Prop) (Ix : Code → Nat → World → Prop) (x : Nat) (W : World) : Exit → Act → World → Prop
  | .normal, _, W' => Keep M W W' ∧ I (x + 1) W'
  | .ret, _, W' => Keep M W W' ∧ Ix .ret x W'
  | .exit id, _, W' => Keep M W W' ∧ Ix (.exit id) x W'
  | .goto t, _, W' => Keep M W W' ∧ Ix (.goto t) x W'
  | .panic _, _, _ => False
  | .outgrown, _, _ => False

theorem rangeC {P : Program} {g : Operand} {ps : Array Tmp} {assign body : Code} {Q : Exit → Act → World → Prop} {a : Act} {w : World} {n : Nat}
    {gf : Nat} {lb : Array Value} (hg : a.eval g = .func (.func gf) #[] lb) (eg : ∀ args w, (callFunc gf args).run P w = .ok (.enter gf args) w)
    {enc : Nat → Array Value} {N : Nat} {p T : Nat → Prop} (hseq : SeqC P gf lb enc N p T w) (hps : ∀ x, (enc x).size = ps.size)
    (M : Nat → Prop) (hM : ∀ b, M b → b < w.heap.size ∧ ¬ T b) (hT : ∀ b, T b → b < w.heap.size) (I : Nat → World → Prop) (Ix : Code → Nat → World → Prop) (hI : Abide w.heap.size I) (hIx : ∀ c, Abide w.heap.size (Ix c)) (h0 : I 0 w)
    (hskip : ∀ x W, x < N → ¬ p x → I x W → I (x + 1) W)
    (hround : ∀ (l x : Nat) (W W2 : World), x < N → p x → I x W2 →
      assign.wpIn (Fence.wide.inRound l) 8 P (Exit.then (fun a' W' => W' = W ∧ body.wpIn (Fence.wide.inRound l) 8 P (postC M I Ix x W2) a' W2) (fun _ _ _ => False)) { tmps := (ps.zip (enc x)).foldl (fun t (p, v) => t.setIfInBounds p v) a.tmps, defers := [] } W)
    (hdone : ∀ (D : Nat) (W : World), w.heap.size ≤ D → I N W → W.heap[D]? = some (.deferred (some [])) → Q .normal { a with defers := { target := .collected D, args := #[] } :: a.defers } W)
    (hstop : ∀ (D : Nat) (c : Code) (x : Nat) (W : World), w.heap.size ≤ D → x < N → p x → Ix c x W → W.heap[D]? = some (.deferred (some [])) → c.wpIn Fence.wide n P Q { a with defers := { target := .collected D, args := #[] } :: a.defers } W) :
    (Code.rangeFunc g ps assign body).wpIn Fence.wide n P Q a w := by
  refine wpIn_rangeFunc fun fn hfn => ?_
  -- the record, by its state and what is pending; where the iterator begins
  obtain ⟨R, hR⟩ : ∃ R : LoopState → Option Code → Obj, R = fun st pe => Obj.loop { state := st, pending := pe, fn, tmps := a.tmps, params := ps, assign, body, defers := w.heap.size } := ⟨_, rfl⟩
  have hcR : ∀ st pe, (R st pe).isCells = false := fun st pe => by rw [hR]; rfl
  have r1 : (w.alloc (.deferred (some []))).heap.size = w.heap.size + 1 := by simp
  obtain ⟨V, hV⟩ : ∃ V, V = (w.alloc (.deferred (some []))).alloc (R .ready none) := ⟨_, rfl⟩
  have sV : V.heap.size = w.heap.size + 2 := by rw [hV]; simp
  have st0 : Stay w.heap.size w V := by rw [hV]; exact (Stay.alloc _ w _ (Nat.le_refl _)).trans (Stay.alloc _ _ _ (by rw [r1]; omega))
  have bV : Below w.heap.size w V := below_stay (Below.refl _ _) st0 (Nat.le_refl _)
  have lV : V.heap[w.heap.size + 1]? = some (R .ready none) := by rw [hV, ← r1]; exact World.alloc_heap_new _ _
  have dV : V.heap[w.heap.size]? = some (.deferred (some [])) := by rw [hV]; exact (Below.heap_alloc _ _ _ (by rw [r1]; omega)).trans (World.alloc_heap_new w _)
  refine ⟨w.heap.size + 1, [{ target := .collected w.heap.size, args := #[] }], V, { target := .fn (.func gf) lb, args := #[.func (.yield (w.heap.size + 1)) #[] #[]] }, V, gf,
    #[.func (.yield (w.heap.size + 1)) #[] #[]] ++ lb, V, ?_, ?_, fun _ _ => trivial, ?_, (fun h => by cases h), ?_⟩
  · rw [hV, hR]; exact run_enterLoop_outer _ _ _ _ _
  · simp only [resolve, hg]; simp [go_sem]
  · simp [invoke, go_sem, eg]
  -- the books: the record and the block for deferred calls, beside the caller's word
  have books : ∀ (X : Nat → World → Prop) (o : Obj), o.isCells = false → Abide w.heap.size X → Abide V.heap.size (fun x W => X x W ∧ W.heap[w.heap.size + 1]? = some o ∧ W.heap[w.heap.size]? = some (.deferred (some []))) := by
    rintro X o _ hX x A B ⟨hx, hl, hd⟩ hs
    exact ⟨hX x A B hx (hs.mono (by omega)), (hs.low _ (by omega)).trans hl, (hs.low _ (by omega)).trans hd⟩
  have hcall := hseq (w.heap.size + 1) (fun b => M b ∨ b = w.heap.size + 1)
    (fun x W => I x W ∧ W.heap[w.heap.size + 1]? = some (R .ready none) ∧ W.heap[w.heap.size]? = some (.deferred (some [])))
    (fun x W => ∃ c, Ix c x W ∧ W.heap[w.heap.size + 1]? = some (R .done (some c)) ∧ W.heap[w.heap.size]? = some (.deferred (some [])))
    V bV (by rintro b (hb | rfl); · exact ⟨by have := (hM b hb).1; omega, (hM b hb).2⟩
             · exact ⟨by omega, fun h => by have := hT _ h; omega⟩)
    (books I _ (hcR _ _) hI)
    (by rintro x A B ⟨c, hc⟩ hs; exact ⟨c, books (Ix c) _ (hcR _ _) (hIx c) x A B hc hs⟩)
    (by rintro x W1 hx hp ⟨hi, hl, hd⟩; exact ⟨hskip x W1 hx hp hi, hl, hd⟩)
    (by
      rintro x W hx hp ⟨hi, hl, hd⟩
      have hlt : w.heap.size + 1 < W.heap.size := (Array.getElem?_eq_some_iff.1 hl).1
      have hl' := hl
      rw [hR] at hl'
      refine ⟨fn, _, assign, body, run_yield (P := P) (args := enc x) hl' (hps x), roundIn_of_wpIn hfn ?_⟩
      -- the record is busy
      obtain ⟨W2, hW2⟩ : ∃ W2, W2 = W.putObj (w.heap.size + 1) (R .busy none) := ⟨_, rfl⟩
      have sW2 : Stay w.heap.size W W2 := by rw [hW2]; exact Stay.putObj _ hl (hcR _ _) (by omega)
      have kW2 : Keep (fun b => M b ∨ b = w.heap.size + 1) W W2 := by rw [hW2]; exact (Keep.refl _ _).putObj (.inr rfl) _
      have lW2 : W2.heap[w.heap.size + 1]? = some (R .busy none) := by rw [hW2]; exact World.putObj_heap_same hlt
      have dW2 : W2.heap[w.heap.size]? = some (.deferred (some [])) := by rw [hW2]; exact (World.putObj_heap_other (by omega)).trans hd
      have e2 : W.putObj (w.heap.size + 1) (.loop { state := .busy, pending := none, fn, tmps := a.tmps, params := ps, assign, body, defers := w.heap.size }) = W2 := by rw [hW2, hR]
      -- a round's end
      have fin : ∀ (j : Option Code) (W3 : World), Keep M W2 W3 → ∃ W4, (Instr.endRound (w.heap.size + 1) j).run P W3 = .ok (.bool j.isNone) W4 ∧ Stay w.heap.size W3 W4 ∧ Keep (fun b => M b ∨ b = w.heap.size + 1) W W4 ∧
          W4.heap[w.heap.size + 1]? = some (R (if j.isNone then .ready else .done) j) ∧ W4.heap[w.heap.size]? = some (.deferred (some [])) := by
        intro j W3 k3
        have h2 : w.heap.size + 1 < W2.heap.size := (Array.getElem?_eq_some_iff.1 lW2).1
        have l3 : W3.heap[w.heap.size + 1]? = some (R .busy none) := (k3.2 _ h2 (fun h => by have := (hM _ h).1; omega)).trans lW2
        have d3 : W3.heap[w.heap.size]? = some (.deferred (some [])) := (k3.2 _ (by omega) (fun h => by have := (hM _ h).1; omega)).trans dW2
        have l3' := l3
        rw [hR] at l3'
        refine ⟨_, run_endRound (P := P) j l3', Stay.putObj _ l3 (hcR _ _) (by omega), (kW2.trans (k3.mono fun _ h => .inl h)).putObj (.inr rfl) _, ?_, (World.putObj_heap_other (by omega)).trans d3⟩
        rw [World.putObj_heap_same (Array.getElem?_eq_some_iff.1 l3).1, hR]
      refine wpIn_mono (hround (w.heap.size + 1) x W W2 hx hp (hI x _ _ hi sW2)) ?_
      rintro e1 a' W1 he1
      have hn : e1 = .normal ∧ W1 = W ∧ body.wpIn (Fence.wide.inRound (w.heap.size + 1)) 8 P (postC M I Ix x W2) a' W2 := by
        cases e1 with
        | normal => exact ⟨rfl, he1.1, he1.2⟩
        | _ => exact he1.elim
      obtain ⟨rfl, rfl, hb⟩ := hn
      refine ⟨W2, ?_, wpIn_mono hb ?_⟩
      · rw [← e2]; exact run_beginRound hl' rfl
      rintro e a3 W3 hpost
      cases e with
      | normal =>
        obtain ⟨W4, hr, s4, k4, l4, d4⟩ := fin none W3 hpost.1
        exact ⟨_, _, hr, .inl ⟨rfl, ⟨hI _ _ _ hpost.2 s4, l4, d4⟩, k4⟩⟩
      | ret =>
        obtain ⟨W4, hr, s4, k4, l4, d4⟩ := fin (some .ret) W3 hpost.1
        exact ⟨_, _, hr, .inr ⟨rfl, ⟨_, hIx _ _ _ _ hpost.2 s4, l4, d4⟩, k4⟩⟩
      | exit id =>
        obtain ⟨W4, hr, s4, k4, l4, d4⟩ := fin (some (.exit id)) W3 hpost.1
        exact ⟨_, _, hr, .inr ⟨rfl, ⟨_, hIx _ _ _ _ hpost.2 s4, l4, d4⟩, k4⟩⟩
      | goto t =>
        obtain ⟨W4, hr, s4, k4, l4, d4⟩ := fin (some (.goto t)) W3 hpost.1
        exact ⟨_, _, hr, .inr ⟨rfl, ⟨_, hIx _ _ _ _ hpost.2 s4, l4, d4⟩, k4⟩⟩
      | panic ch => exact hpost.elim
      | outgrown => exact hpost.elim)
    ⟨hI _ _ _ h0 st0, lV, dV⟩
  refine (callsIn_wide.2 (callsIn_wide.1 hcall)).mono ?_
  -- behind the iterator
  rintro e W ⟨⟨v, rfl⟩, (⟨hi, hl, hd⟩ | ⟨x, hx, hp, c, hi, hl, hd⟩)⟩
  · have hl' := hl
    rw [hR] at hl'
    exact ⟨none, _, run_endLoop (P := P) hl' (by simp), hdone _ _ (Nat.le_refl _) (hI _ _ _ hi (Stay.putObj _ hl (hcR _ _) (by omega))) ((World.putObj_heap_other (by omega)).trans hd)⟩
  · have hl' := hl
    rw [hR] at hl'
    exact ⟨some c, _, run_endLoop (P := P) hl' (by simp), hstop _ c x _ (Nat.le_refl _) hx hp (hIx _ _ _ _ hi (Stay.putObj _ hl (hcR _ _) (by omega))) ((World.putObj_heap_other (by omega)).trans hd)⟩

/-- a function that ranged over another one leaves: its result stands in a box, which is written last; the block for the rounds' deferred calls is shut -/
theorem leaves {n B D : Nat} {w W : World} {v u : Value} (hb : Box W B v) (hK : W.heap[D]? = some (.deferred (some []))) (hB : n ≤ B) (hD : n ≤ D) (hne : B ≠ D) (h : Below n w W) :
    (W.setCell ⟨B, 0, none⟩ u).heap[D]? = some (.deferred (some [])) ∧ ((W.setCell ⟨B, 0, none⟩ u).putObj D (.deferred none)).cell? ⟨B, 0, none⟩ = some u ∧ Below n w ((W.setCell ⟨B, 0, none⟩ u).putObj D (.deferred none)) := by
  have k1 : (W.setCell ⟨B, 0, none⟩ u).heap[D]? = some (.deferred (some [])) := (Below.heap_setCell W _ u D (fun e => hne e.symm)).trans hK
  have s1 : Stay D (W.setCell ⟨B, 0, none⟩ u) ((W.setCell ⟨B, 0, none⟩ u).putObj D (.deferred none)) := Stay.putObj _ k1 rfl (Nat.le_refl _)
  exact ⟨k1, ((hb.set u).stay s1).1, below_stay (h.setCell (p := ⟨B, 0, none⟩) hB u) s1 hD⟩

/-- a function without results that ranged over others, once and again, leaves: each block for deferred calls is shut -/
theorem leaves_all {n : Nat} {P : Program} {fn : Func} {tmps : Array Value} {R : Ending → World → Prop} {B : Nat} (hfn : fn.results = #[]) (hR : ∀ W W', R (.returned (.tuple #[])) W → Stay B W W' → R (.returned (.tuple #[])) W') :
    ∀ (ds : List Nat) (W : World), ds.Nodup → (∀ D ∈ ds, B ≤ D ∧ W.heap[D]? = some (.deferred (some []))) → R (.returned (.tuple #[])) W → LeavesInM Fence.wide n P fn tmps R (ds.map fun D => { target := .collected D, args := #[] }) .returning W
  | [], W, _, _, h => ⟨_, results_none hfn _ _ _, h⟩
  | D :: ds, W, hnd, hd, h => by
    have h0 := hd D (by simp)
    have hnd' := List.nodup_cons.1 hnd
    refine ⟨by simp, .inl ⟨D, _, rfl, run_takeDeferred h0.2, ?_⟩⟩
    refine leaves_all hfn hR ds _ hnd'.2 (fun E hE => ?_) (hR _ _ h (Stay.putObj _ h0.2 rfl h0.1))
    have hE' := hd E (by simp [hE])
    exact ⟨hE'.1, (World.putObj_heap_other (fun e => hnd'.1 (by cases e; exact hE))).trans hE'.2⟩

end Go.Proofs.YtoimbjbdkkohcaaGreatDoor

/-
  The walks of package bit, the leaves: the weight of a word of each width, its parity; the document's weight.
-/
namespace Go.Proofs.YtoimbjbdkkohcaaGreatDoor
open Go.RowKit
open Bm (wt wtK)

set_option maxHeartbeats 1000000 in
theorem onesCount_any (x : Nat) (hx : x < 18446744073709551616) (w : World) :
    Calls Tryz.prog 104 #[.int .u64 (x : Int)] w fun e w' => e = .returned (.int .i64 (wt x : Int)) ∧ w' = w := by
  obtain ⟨a1, a2, b1, b2, c, u, v, ⟨ha1, ha2⟩, ⟨ra1, ra2, ra⟩, ⟨hb1, hb2⟩, rb, hc, rc, hu, ru, hv, rv, rz, hz⟩ := Bm.ones64 x hx
  go_enter Tryz.func104, Tryz.ntmps104
  go_wp2_with (first | simp only [ha1] | simp only [ha2] | simp only [hb1] | simp only [hb2] | simp only [hc] | simp only [hu] | simp only [hv] | simp only [hz])
  go_ret
  exact ⟨rfl, rfl⟩

theorem weight8_any (x : Nat) (hx : x < 256) (w : World) :
    Calls Tryz.prog 100 #[.int .u8 (x : Int)] w fun e w' => e = .returned (.int .i64 (wt x : Int)) ∧ w' = w := by
  have hx' : x < 18446744073709551616 := by omega
  go_enter Tryz.func100, Tryz.ntmps100
  go_wp2_with (go_at_call 104; refine (onesCount_any _ hx' _).mono ?_; rintro e w' ⟨rfl, rfl⟩)
  go_ret
  exact ⟨rfl, rfl⟩


theorem weight32_any (x : Nat) (hx : x < 4294967296) (w : World) :
    Calls Tryz.prog 86 #[.int .u32 (x : Int)] w fun e w' => e = .returned (.int .i64 (wt x : Int)) ∧ w' = w := by
  have hx' : x < 18446744073709551616 := by omega
  go_enter Tryz.func86, Tryz.ntmps86
  go_wp2_with (go_at_call 104; refine (onesCount_any _ hx' _).mono ?_; rintro e w' ⟨rfl, rfl⟩)
  go_ret
  exact ⟨rfl, rfl⟩
theorem parity32_any (x : Nat) (hx : x < 4294967296) (w : World) :
    Calls Tryz.prog 65 #[.int .u32 (x : Int)] w fun e w' => e = .returned (.int .i64 ((wt x % 2 : Nat) : Int)) ∧ w' = w := by
  obtain ⟨n, hn, Hn⟩ : ∃ n, n ≤ 64 ∧ Hid (wt x = n) := ⟨_, Bm.wt_le x, rfl⟩
  rw [Hn.out]
  go_enter Tryz.func65, Tryz.ntmps65
  go_wp2_with (go_at_call 86; refine (weight32_any _ hx _).mono ?_; rintro e w' ⟨rfl, rfl⟩; rw [Hn.out])
  go_ret
  exact ⟨by congr 1, rfl⟩


set_option maxHeartbeats 1000000 in
theorem refWeight_any (x : Nat) (hx : x < 18446744073709551616) (w : World) :
    Calls Tryz.prog 19 #[.int .u64 (x : Int)] w fun e w' => e = .returned (.int .i64 (wt x : Int)) ∧ w' = w := by
  go_enter Tryz.func19, Tryz.ntmps19
  go_wp2
  go_loop [0, 3] (fun a b => ∃ y n : Nat, y < 18446744073709551616 ∧ n ≤ 64 ∧ wt y ≤ 64 ∧ n + wt y ≤ 64 ∧ Hid (n + wt y = wt x) ∧ a = .int .u64 (y : Int) ∧ b = .int .i64 (n : Int)) (fun a _ => (intOf a).toNat)
  case atStart => exact ⟨x, 0, hx, by omega, Bm.wt_le x, by have := Bm.wt_le x; omega, by show _ = _; omega, rfl, rfl⟩
  case round =>
    obtain ⟨y, n, hy, hn, hw, hs, Hs, rfl, rfl⟩ := hrel
    by_cases h0 : 0 < y
    · have st := Bm.wt_step y hy
      have h2 : n + y % 2 ≤ 64 := by omega
      have e1 : (y : Int).tmod 2 = ((y % 2 : Nat) : Int) := by rw [Int.tmod_eq_emod_of_nonneg (by omega)]; rfl
      have e2 : (y : Int).tdiv 2 = ((y / 2 : Nat) : Int) := by rw [Int.tdiv_eq_ediv_of_nonneg (by omega)]; rfl
      go_wp2_with (first | simp only [e1] | simp only [e2])
      go_round
      case rel => exact ⟨y / 2, n + y % 2, by omega, h2, by omega, by omega, by have := Hs.out; show _ = _; omega, by first | rfl | go_num, by first | rfl | go_num⟩
      case measure => simp [intOf]; omega
    · have e : n = wt x := by have := Hs.out; rw [show y = 0 from by omega, Bm.wt_zero] at this; omega
      have He : Hid (n = wt x) := e
      have hy0 : y = 0 := by omega
      clear e Hs hs hw h0
      subst hy0
      go_wp2
      go_ret
      exact ⟨by rw [← He.out]; rfl, rfl⟩
end Go.Proofs.YtoimbjbdkkohcaaGreatDoor

/-
  Choose: which arguments it answers; the iterator that it makes; the document's example.
-/
namespace Go.Proofs.YtoimbjbdkkohcaaGreatDoor
open Go.RowKit Go.Shelf
open Bm (wt wtK)
attribute [local go_sem] Oper.semAt_some

/-- what a round may hand back, its answer left open -/
theorem yields {e : Ending} {A B : Prop} (h : (e = .returned (.bool true) ∧ A) ∨ (e = .returned (.bool false) ∧ B)) : ∃ r : Bool, e = .returned (.bool r) ∧ Hid ((r = true ∧ A) ∨ (r = false ∧ B)) := by
  rcases h with ⟨rfl, h⟩ | ⟨rfl, h⟩
  · exact ⟨true, rfl, .inl ⟨rfl, h⟩⟩
  · exact ⟨false, rfl, .inr ⟨rfl, h⟩⟩

set_option maxRecDepth 100000 in
set_option maxHeartbeats 2000000 in
theorem choose8_seq (nb kb : Nat) (n : Nat) (hn : n ≤ 8) (k : Int) (w : World) (hnb : nb < w.heap.size) (hkb : kb < w.heap.size)
    (cn : w.cell? ⟨nb, 0, none⟩ = some (.int .i64 (n : Int))) (ck : w.cell? ⟨kb, 0, none⟩ = some (.int .i64 k)) :
    SeqC Tryz.prog 99 #[.pointer (some ⟨nb, 0, none⟩), .pointer (some ⟨kb, 0, none⟩)] (fun x => #[.int .u8 (x : Int)]) (2 ^ n) (fun x => (wt x : Int) = k) (fun b => b = kb) w := by
  intro l M J Jx W hW hM hJ hJx hskip hY h0
  have cn' : W.cell? ⟨nb, 0, none⟩ = some (.int .i64 (n : Int)) := (hW.cell (p := ⟨nb, 0, none⟩) hnb).trans cn
  have ck' : W.cell? ⟨kb, 0, none⟩ = some (.int .i64 k) := (hW.cell (p := ⟨kb, 0, none⟩) hkb).trans ck
  have hkbW : kb < W.heap.size := Nat.lt_of_lt_of_le hkb hW.size
  have hMk : ¬ M kb := fun h => (hM kb h).2 rfl
  obtain ⟨N, hN, hNb, HN⟩ : ∃ N : Nat, (2 : Int) ^ n = (N : Int) ∧ N ≤ 256 ∧ Hid (N = 2 ^ n) := ⟨2 ^ n, by simp, Nat.pow_le_pow_right (by decide) hn, rfl⟩
  rw [← HN.out] at hskip hY ⊢
  have HJ : Hid (Abide W.heap.size J) := hJ
  have Hskip : Hid (∀ (x : Nat) (W1 : World), x < N → ¬ (wt x : Int) = k → J x W1 → J (x + 1) W1) := hskip
  have HY : Hid (∀ (x : Nat) (W1 : World), x < N → (wt x : Int) = k → J x W1 → YieldAt Fence.wide 8 Tryz.prog l #[.int .u8 (x : Int)] W1 fun e W' => (e = .returned (.bool true) ∧ J (x + 1) W' ∧ Keep M W1 W') ∨ (e = .returned (.bool false) ∧ Jx x W' ∧ Keep M W1 W')) := hY
  have mix : Tryz.prog.follows .mixedOrders = true := by kernel_rfl
  clear hJ hJx hskip hY hM hW cn ck
  refine callsIn_of_wp Tryz.func99 rfl trivial ?_ rfl
  simp only [Tryz.ntmps99, List.size_toArray, List.length_cons, List.length_nil, Nat.reduceAdd, Nat.reduceSub, Array.replicate_succ, Array.replicate_zero, List.push_toArray, List.append_toArray, List.nil_append, List.cons_append]
  gi_wp2_with (simp only [hN])
  gi_loopw [8] (fun i wr => ∃ x : Nat, x ≤ N ∧ i = .int .i64 (x : Int) ∧ J x wr ∧ Keep M W wr) (fun i _ => (N - (intOf i).toNat))
  case atStart => exact ⟨0, by omega, rfl, h0, Keep.refl _ _⟩
  case round =>
    obtain ⟨x, hx, rfl, hJs, hK⟩ := hrel
    by_cases hlt : x < N
    · have ckr : wr.cell? ⟨kb, 0, none⟩ = some (.int .i64 k) := (World.cell?_of_block (w := W) (hK.2 kb hkbW hMk)).trans ck'
      have ckr2 : wr.drew.cell? ⟨kb, 0, none⟩ = some (.int .i64 k) := ckr
      obtain ⟨t, ht, Ht⟩ : ∃ t, t ≤ 64 ∧ Hid (wt x = t) := ⟨_, Bm.wt_le x, rfl⟩
      have hWt : Hid (∀ w, Calls Tryz.prog 100 #[.int .u8 (x : Int)] w fun e w' => e = .returned (.int .i64 (t : Int)) ∧ w' = w) := fun w => by rw [← Ht.out]; exact weight8_any x (by omega) w
      by_cases hp : (t : Int) = k
      · have HP : Hid ((wt x : Int) = k) := by rw [Ht.out]; exact hp
        have hd : ((t : Int) == k) = true := by rw [hp]; simp
        have hx8 : x < 256 := by omega
        obtain ⟨fn, tmps, assign, body, hy, hR⟩ := HY.out x wr.drew hlt HP.out (HJ.out x wr _ hJs (Stay.drewN _ wr 1))
        gi_wp2
        gi_region_with (first | (refine ⟨trivial, ?_⟩; gi_at_call 100; refine (callsIn_wide.2 (hWt.out _)).mono ?_; rintro e w' ⟨rfl, rfl⟩) | (gi_at_call 100; refine (callsIn_wide.2 (hWt.out _)).mono ?_; rintro e w' ⟨rfl, rfl⟩) | (refine hR.mono ?_; rintro e W3 hE; obtain ⟨r, rfl, hE2⟩ := yields hE))
        all_goals
          clear HY Hskip hR hy
          rcases hE2.out with ⟨rfl, hJ3, hK3⟩ | ⟨rfl, hJx3⟩
          · go_wp2
            repeat (refine wpIn_wide.2 ?_; go_wp2)
            go_roundw
            case rel => exact ⟨x + 1, by omega, by go_num, hJ3, hK.trans hK3⟩
            case measure => simp [intOf]; omega
          · go_wp2
            repeat (refine wpIn_wide.2 ?_; go_wp2)
            refine bodyPost_ret (results_none rfl _ _ _) rfl ?_
            exact ⟨⟨_, rfl⟩, .inr ⟨x, hlt, HP.out, hJx3.1⟩⟩
      · have hd : ((t : Int) == k) = false := by simpa using hp
        have HJ' := Hskip.out x wr hlt (by rw [Ht.out]; exact hp) hJs
        clear hp
        have hx8 : x < 256 := by omega
        refine wpIn_wide.2 ?_
        go_wp2
        go_quiet ((go_at_call 100; exact Calls.quiet_of_same (hWt.out _)))
        go_wp2
        go_roundw
        case rel => exact ⟨x + 1, by omega, by go_num, HJ.out _ _ _ HJ' (Stay.drewN _ _ _), hK⟩
        case measure => simp [intOf]; omega
    · gi_wp2
      go_end0
      obtain rfl : x = N := by omega
      exact ⟨⟨_, rfl⟩, .inl hJs⟩


end Go.Proofs.YtoimbjbdkkohcaaGreatDoor

/-
  Choose: which arguments it answers, and what it hands back.
-/
namespace Go.Proofs.YtoimbjbdkkohcaaGreatDoor
open Go.RowKit Go.Shelf
open Bm (wt wtK)
attribute [local go_sem] Oper.semAt_some

theorem wtFull8 : wt 255 = 8 := by decide +kernel
set_option maxHeartbeats 1000000 in
theorem choosable8_yes (n k : Int) (h0 : 0 ≤ k) (h1 : k ≤ n) (h2 : n ≤ 8) (w : World) :
    Calls Tryz.prog 97 #[.int .i64 n, .int .i64 k] w fun e w' => e = .returned (.bool true) ∧ w' = w := by
  have hw : Hid (∀ w, Calls Tryz.prog 100 #[.int .u8 255] w fun e w' => e = .returned (.int .i64 8) ∧ w' = w) := fun w => by
    have := weight8_any 255 (by omega) w
    rw [wtFull8] at this; exact this
  have hmin : ∀ (ts : Array TypeId) (t : TypeId) (w : World), (Builtin.min_ ts t #[.int .i64 16, .int .i64 8]).run Tryz.prog w = .ok (.int .i64 8) w := fun _ _ _ => rfl
  go_enter Tryz.func97, Tryz.ntmps97
  go_wp2_with (go_at_call 100; refine (hw.out _).mono ?_; rintro e w' ⟨rfl, rfl⟩)
  go_ret
  exact ⟨rfl, rfl⟩
set_option maxHeartbeats 1000000 in
theorem choosable8_no (n k : Int) (h : ¬ (0 ≤ k ∧ k ≤ n ∧ n ≤ 8)) (w : World) :
    Calls Tryz.prog 97 #[.int .i64 n, .int .i64 k] w fun e w' => e = .returned (.bool false) ∧ w' = w := by
  have hw : Hid (∀ w, Calls Tryz.prog 100 #[.int .u8 255] w fun e w' => e = .returned (.int .i64 8) ∧ w' = w) := fun w => by
    have := weight8_any 255 (by omega) w
    rw [wtFull8] at this; exact this
  have hmin : ∀ (ts : Array TypeId) (t : TypeId) (w : World), (Builtin.min_ ts t #[.int .i64 16, .int .i64 8]).run Tryz.prog w = .ok (.int .i64 8) w := fun _ _ _ => rfl
  by_cases h0 : 0 ≤ k
  · by_cases h1 : k ≤ n
    · have h2 : 8 < n := by omega
      have d2 : decide (n ≤ 8) = false := by simp; omega
      clear h
      go_enter Tryz.func97, Tryz.ntmps97
      go_wp2_with (go_at_call 100; refine (hw.out _).mono ?_; rintro e w' ⟨rfl, rfl⟩)
      go_ret
      exact ⟨rfl, rfl⟩
    · have d1 : decide (k ≤ n) = false := by simp; omega
      clear h
      go_enter Tryz.func97, Tryz.ntmps97
      go_wp2_with (go_at_call 100; refine (hw.out _).mono ?_; rintro e w' ⟨rfl, rfl⟩)
      go_ret
      exact ⟨rfl, rfl⟩
  · have d0 : decide (0 ≤ k) = false := by simp; omega
    clear h
    go_enter Tryz.func97, Tryz.ntmps97
    go_wp2_with (go_at_call 100; refine (hw.out _).mono ?_; rintro e w' ⟨rfl, rfl⟩)
    go_ret
    exact ⟨rfl, rfl⟩
set_option maxHeartbeats 1000000 in
theorem choose8_yes (n k : Int) (h0 : 0 ≤ k) (h1 : k ≤ n) (h2 : n ≤ 8) (w : World) :
    Calls Tryz.prog 81 #[.int .i64 n, .int .i64 k] w fun e w' =>
      e = .returned (.func (.func 99) #[] #[.pointer (some ⟨w.heap.size, 0, none⟩), .pointer (some ⟨w.heap.size + 1, 0, none⟩)]) ∧
      w' = (w.alloc (.cells #[.int .i64 n] 3)).alloc (.cells #[.int .i64 k] 3) := by
  go_enter Tryz.func81, Tryz.ntmps81
  go_wp2_with (go_at_call 97; refine (choosable8_yes _ _ h0 h1 h2 _).mono ?_; rintro e w' ⟨rfl, rfl⟩)
  go_ret
  exact ⟨rfl, rfl⟩
set_option maxHeartbeats 1000000 in
theorem choose8_no (n k : Int) (h : ¬ (0 ≤ k ∧ k ≤ n ∧ n ≤ 8)) (w : World) :
    Calls Tryz.prog 81 #[.int .i64 n, .int .i64 k] w fun e w' =>
      e = .returned (.func (.func 98) #[] #[]) ∧
      w' = (w.alloc (.cells #[.int .i64 n] 3)).alloc (.cells #[.int .i64 k] 3) := by
  have H : Hid (¬ (0 ≤ k ∧ k ≤ n ∧ n ≤ 8)) := h
  clear h
  go_enter Tryz.func81, Tryz.ntmps81
  go_wp2_with (go_at_call 97; refine (choosable8_no _ _ H.out _).mono ?_; rintro e w' ⟨rfl, rfl⟩)
  go_ret
  exact ⟨rfl, rfl⟩
/-- none come -/
theorem choose8_none (enc : Nat → Array Value) (p T : Nat → Prop) (w : World) : SeqC Tryz.prog 98 #[] enc 0 p T w := by
  intro l M J Jx W hW hM hJ hJx hskip hY h0
  clear hskip hY
  refine callsIn_of_wp Tryz.func98 rfl trivial ?_ rfl
  simp only [Tryz.ntmps98, List.size_toArray, List.length_cons, List.length_nil, Nat.reduceAdd, Nat.reduceSub, Array.replicate_succ, Array.replicate_zero, List.push_toArray, List.append_toArray, List.nil_append, List.cons_append, Array.append_empty]
  gi_wp2
  go_end0
  exact ⟨⟨_, rfl⟩, .inl h0⟩


end Go.Proofs.YtoimbjbdkkohcaaGreatDoor

/-
  The document's example, which every statement of layer 3 holds the program against first.
-/
namespace Go.Proofs.YtoimbjbdkkohcaaGreatDoor
open Go.RowKit Go.Shelf
open Bm (wt wtK cntW)
attribute [local go_sem] Oper.semAt_some

/-- four variables' boxes, laid one by one -/
theorem four_boxes (w : World) (t0 t1 t2 t3 : TypeId) (v0 v1 v2 v3 : Value) (V : World) (h : (((w.alloc (.cells #[v0] t0)).alloc (.cells #[v1] t1)).alloc (.cells #[v2] t2)).alloc (.cells #[v3] t3) = V) :
    V.heap.size = w.heap.size + 4 ∧ Box V w.heap.size v0 ∧ Box V (w.heap.size + 1) v1 ∧ Box V (w.heap.size + 1 + 1) v2 ∧ Box V (w.heap.size + 1 + 1 + 1) v3 ∧ Below w.heap.size w V := by
  have a0 := Box.new w t0 v0
  have a1 := Box.new (w.alloc (.cells #[v0] t0)) t1 v1
  have a2 := Box.new ((w.alloc (.cells #[v0] t0)).alloc (.cells #[v1] t1)) t2 v2
  have a3 := Box.new (((w.alloc (.cells #[v0] t0)).alloc (.cells #[v1] t1)).alloc (.cells #[v2] t2)) t3 v3
  simp only [World.size_alloc] at a1 a2 a3
  rw [← h]
  exact ⟨by simp, ((a0.alloc _).alloc _).alloc _, (a1.alloc _).alloc _, a2.alloc _, a3, ((((Below.refl _ w).alloc (Nat.le_refl _) _).alloc (by simp) _).alloc (by simp; omega) _).alloc (by simp; omega) _⟩

end Go.Proofs.YtoimbjbdkkohcaaGreatDoor

/-
  What is left of a word when its lowest ones are taken, one by one.
-/
namespace Go.Proofs.YtoimbjbdkkohcaaGreatDoor.Bm
open Go Go.RowKit

/-- v without its lowest q bits -/
def lef (v q : Nat) : Nat := v / 2 ^ q * 2 ^ q
theorem lef_zero (v : Nat) : lef v 0 = v := by simp [lef]
theorem lef_div (v q r : Nat) (h : q ≤ r) : lef v q / 2 ^ r = v / 2 ^ r := by
  obtain ⟨d, rfl⟩ : ∃ d, r = q + d := ⟨r - q, by omega⟩
  unfold lef
  rw [Nat.pow_add, ← Nat.div_div_eq_div_mul, Nat.mul_div_cancel _ (Nat.two_pow_pos q), Nat.div_div_eq_div_mul]
theorem lef_le (v q : Nat) : lef v q ≤ v := Nat.div_mul_le_self v _
theorem lef_nil (v q r : Nat) (h : lef v q = 0) (hr : q ≤ r) : ¬ v / 2 ^ r % 2 = 1 := by
  rw [← lef_div v q r hr, h]; simp
theorem and_pred (p m : Nat) : (2 ^ p * (2 * m + 1)) &&& (2 ^ p * (2 * m + 1) - 1) = m * 2 ^ (p + 1) := by
  have hp := Nat.two_pow_pos p
  have e1 : 2 ^ p * (2 * m + 1) = 2 ^ (p + 1) * m + 2 ^ p := by rw [Nat.mul_add, Nat.mul_one, ← Nat.mul_assoc, ← Nat.pow_succ]
  have e2 : 2 ^ p * (2 * m + 1) - 1 = 2 ^ (p + 1) * m + (2 ^ p - 1) := by rw [e1]; omega
  have hq : 2 ^ p < 2 ^ (p + 1) := by rw [Nat.pow_succ]; omega
  rw [e2, e1]
  have d1 : (2 ^ (p + 1) * m + 2 ^ p) / 2 ^ (p + 1) = m := by rw [Nat.mul_add_div (Nat.two_pow_pos _), Nat.div_eq_of_lt hq]; omega
  have d2 : (2 ^ (p + 1) * m + (2 ^ p - 1)) / 2 ^ (p + 1) = m := by rw [Nat.mul_add_div (Nat.two_pow_pos _), Nat.div_eq_of_lt (by omega)]; omega
  have m1 : (2 ^ (p + 1) * m + 2 ^ p) % 2 ^ (p + 1) = 2 ^ p := by rw [Nat.mul_add_mod, Nat.mod_eq_of_lt hq]
  have m2 : (2 ^ (p + 1) * m + (2 ^ p - 1)) % 2 ^ (p + 1) = 2 ^ p - 1 := by rw [Nat.mul_add_mod, Nat.mod_eq_of_lt (by omega)]
  have h1 : ((2 ^ (p + 1) * m + 2 ^ p) &&& (2 ^ (p + 1) * m + (2 ^ p - 1))) / 2 ^ (p + 1) = m := by rw [Nat.and_div_two_pow, d1, d2, Nat.and_self]
  have h2 : ((2 ^ (p + 1) * m + 2 ^ p) &&& (2 ^ (p + 1) * m + (2 ^ p - 1))) % 2 ^ (p + 1) = 0 := by
    rw [Nat.and_mod_two_pow, m1, m2, Nat.and_two_pow_sub_one_eq_mod]; simp
  have := Nat.div_add_mod ((2 ^ (p + 1) * m + 2 ^ p) &&& (2 ^ (p + 1) * m + (2 ^ p - 1))) (2 ^ (p + 1))
  rw [h1, h2] at this
  rw [← this, Nat.mul_comm]; omega
theorem low_facts (K v q : Nat) (hK : K ≤ 64) (hv : v < 2 ^ K) (h : lef v q ≠ 0) : ∃ p, p < K ∧ q ≤ p ∧ Lib.ctz 64 (lef v q) = p ∧ (∀ r, q ≤ r → r < p → ¬ v / 2 ^ r % 2 = 1) ∧ v / 2 ^ p % 2 = 1 ∧ lef v q &&& (lef v q - 1) = lef v (p + 1) := by
  have hlt : lef v q < 2 ^ 64 := Nat.lt_of_le_of_lt (lef_le v q) (Nat.lt_of_lt_of_le hv (Nat.pow_le_pow_right (by decide) hK))
  obtain ⟨m, hm, _⟩ := Lib.ctzFrom_spec 64 (lef v q) (by omega) hlt
  obtain ⟨p, hp⟩ : ∃ p, Lib.ctz 64 (lef v q) = p := ⟨_, rfl⟩
  have hp' : Lib.ctzFrom 64 (lef v q) = p := by rw [← hp]; simp [Lib.ctz, h]
  rw [hp'] at hm
  have pos := Nat.two_pow_pos p
  have dp : lef v q / 2 ^ p = 2 * m + 1 := by rw [hm]; exact Nat.mul_div_cancel_left _ pos
  have hqp : q ≤ p := by
    refine Nat.le_of_not_lt fun hlt2 => ?_
    obtain ⟨d, rfl⟩ : ∃ d, q = p + (d + 1) := ⟨q - p - 1, by omega⟩
    have e : lef v (p + (d + 1)) / 2 ^ p = 2 * (v / 2 ^ (p + (d + 1)) * 2 ^ d) := by
      unfold lef
      generalize v / 2 ^ (p + (d + 1)) = z
      rw [Nat.pow_add, Nat.pow_succ, show z * (2 ^ p * (2 ^ d * 2)) = 2 ^ p * (2 * (z * 2 ^ d)) from by ac_rfl]
      exact Nat.mul_div_cancel_left _ pos
    rw [e] at dp; omega
  have one : v / 2 ^ p % 2 = 1 := by rw [← lef_div v q p hqp, dp]; omega
  have hpK : p < K := by
    refine Nat.lt_of_not_le fun hle => ?_
    have : v / 2 ^ p = 0 := Nat.div_eq_of_lt (Nat.lt_of_lt_of_le hv (Nat.pow_le_pow_right (by decide) hle))
    rw [this] at one; simp at one
  refine ⟨p, hpK, hqp, hp, ?_, one, ?_⟩
  · intro r hr hrp
    rw [← lef_div v q r hr, hm]
    obtain ⟨d, rfl⟩ : ∃ d, p = r + (d + 1) := ⟨p - r - 1, by omega⟩
    rw [Nat.pow_add, Nat.mul_assoc, Nat.mul_div_cancel_left _ (Nat.two_pow_pos r), Nat.pow_succ, Nat.mul_comm (2 ^ d) 2, Nat.mul_assoc]
    omega
  · have e : v / 2 ^ (p + 1) = m := by
      rw [← lef_div v q (p + 1) (by omega), Nat.pow_succ, ← Nat.div_div_eq_div_mul, dp]; omega
    rw [show lef v (p + 1) = m * 2 ^ (p + 1) from by unfold lef; rw [e]]
    have := and_pred p m
    rw [← hm] at this
    exact this
/-- the key of the table, of a word's lowest one -/
theorem tz_key (x a : Nat) (hx : x < 18446744073709551616) (hx0 : x ≠ 0) (hlow : x &&& (18446744073709551616 - x) = a) :
    IntKind.u64.wrap (bits .and .u64 (x : Int) (IntKind.u64.wrap (-(x : Int))) * 285870213051353865) / 288230376151711744 = ((a * 285870213051353865 % 18446744073709551616 / 288230376151711744 : Nat) : Int) := by
  have e1 : IntKind.u64.wrap (-(x : Int)) = ((18446744073709551616 - x : Nat) : Int) := by rw [IntKind.wrap_u64]; omega
  rw [e1, u64_and_nat x _ hx (by omega), hlow, IntKind.wrap_u64]
  omega
/-- a cursor goes on over what does not fit -/
theorem skips {J : Nat → World → Prop} {N : Nat} {p : Nat → Prop} (h : ∀ x W, x < N → ¬ p x → J x W → J (x + 1) W) (q r : Nat) (W : World) (hqr : q ≤ r) (hr : r ≤ N) (hp : ∀ x, q ≤ x → x < r → ¬ p x) (hJ : J q W) : J r W := by
  induction r with
  | zero => rw [show (0 : Nat) = q from by omega]; exact hJ
  | succ r ih =>
    by_cases e : q = r + 1
    · rw [← e]; exact hJ
    · exact h r W (by omega) (hp r (by omega) (by omega)) (ih (by omega) (by omega) (fun x h1 h2 => hp x h1 (by omega)))
end Go.Proofs.YtoimbjbdkkohcaaGreatDoor.Bm

/-
  The table of math/bits that the program reads (deBruijn64tab), out of the row's condition on what the variable holds when the call begins.
-/
namespace Go.Proofs.YtoimbjbdkkohcaaGreatDoor
open Go.ChangeShapes Go.WideShapes Go.ChangeAt Go.WideElems Go.RowKit

theorem gTab : Tryz.prog.globalNamed "math/bits.deBruijn64tab" = some 0 := by kernel_rfl
theorem tTab : (Tryz.prog.globals[0]?).map (·.type) = some 22 := by kernel_rfl
/-- the row's list -/
abbrev laidTab : List (String × DataW Unit) := [("math/bits.deBruijn64tab", Rows.laid_math_bits_deBruijn64tab)]
/-- the heap that the door's own run leaves meets the condition -/
theorem door_met (os : Os) (args : Array Value) : laidMetH Tryz.prog laidTab ((World.doorLaid Tryz.prog 400 os).forCall (fun _ _ => 0) ⟨#[], args, []⟩).memory :=
  laidMetH_of_parts3 (fuel := 8) (laidMet_of_run' 8 (by kernel_rfl) (by kernel_rfl)) (by kernel_rfl) (by kernel_rfl)
/-- the table lies in its variable -/
def TabW (W : World) : Prop := ∀ j, j < 64 → W.cell? ⟨0, j, none⟩ = some (.int .u8 ((Lib.deBruijn64tab.getD j 0 : Nat) : Int))
theorem tab_of_laid {W : World} (h : laidMetH Tryz.prog laidTab W) : TabW W := by
  rw [MakeChecks.laidMetH_plain _ _ _ (by kernel_rfl)] at h
  have hT := Lib.tabIs_of_head (k := .u8) (zs := Lib.deBruijn64tab.map fun n : Nat => (n : Int)) gTab tTab Tryz.underlying22 Tryz.underlying5 (by kernel_rfl) (by kernel_rfl) h
  intro j hj
  have := hT.cell gTab j (by simpa [Lib.deBruijn64tab] using hj)
  rw [this]
  congr 2
  simp only [List.getD_eq_getElem?_getD, List.getElem?_map]
  cases hg : Lib.deBruijn64tab[j]? <;> simp
end Go.Proofs.YtoimbjbdkkohcaaGreatDoor

/-
  A region that draws its order and only reads, within a round of a range over a function: one walk serves every order.
-/
namespace Go.Proofs.YtoimbjbdkkohcaaGreatDoor
open Go.RowKit

theorem quietUpon_wide {n : Nat} {P : Program} {C : World → Prop} {w : World} {v : Value} {r : Result Next} (h : Oper.quietUpon P C w v r) : Oper.quietUponIn Fence.wide n P C w v r := by
  cases r with
  | ok x w' =>
    cases x with
    | value u => exact h
    | skip => exact h
    | enter f args => exact ⟨h.1, (fun e => by cases e), callsIn_wide.2 h.2⟩
    | _ => exact h.elim
  | _ => exact h.elim
theorem wpQuietIn_wide {n : Nat} {P : Program} {ops : Array Oper} {C : World → Prop} {Q : Act → Prop} : ∀ {l : List Oper} {a : Act}, wpQuiet P ops C Q l a → wpQuietIn Fence.wide n P ops C Q l a
  | [], _, h => h
  | o :: l, a, h => by
    refine ⟨fun _ _ _ _ => trivial, ?_⟩
    unfold wpQuiet at h
    split at h
    · rename_i hw
      rw [if_pos hw]
      obtain ⟨v, h1, h2⟩ := h
      exact ⟨v, fun w hC => quietUpon_wide (h1 w hC), wpQuietIn_wide h2⟩
    · rename_i hw
      rw [if_neg hw]
      exact wpQuietIn_wide h

/-- no operation is a defer statement -/
def noDefer (l : List Oper) : Bool := l.all fun o => match o.op with | .defer _ => false | _ => true
theorem noDefer_spec {l : List Oper} (h : noDefer l = true) : ∀ o ∈ l, ∀ c, o.op ≠ .defer c := by
  intro o ho c e
  have := List.all_eq_true.1 h o ho
  rw [e] at this
  cases this
theorem operIn_round {n l : Nat} {P : Program} {o : Oper} {a : Act} {w : World} {K K' : Act → World → Prop} {Q : Exit → Act → World → Prop} (hd : ∀ c, o.op ≠ .defer c) (hK : ∀ a w, K a w → K' a w)
    (h : o.wpIn Fence.wide n P a w K Q) : o.wpIn (Fence.wide.inRound l) n P a w K' Q := by
  have h' := Oper.wpIn_mono hK h
  refine ⟨fun _ _ => trivial, ?_⟩
  have e : o.semAt (Fence.wide.inRound l).round a.eval = o.semAt Fence.wide.round a.eval := by
    show o.semAt (some l) a.eval = o.semAt none a.eval
    rw [Oper.semAt_some l _ o hd, Oper.semAt_none]
  rw [e]
  exact h'.2
theorem anyIn_round {n l : Nat} {P : Program} {md : Region.Mode} {ops : Array Oper} {Q : Exit → Act → World → Prop} (hd : ∀ o ∈ ops.toList, ∀ c, o.op ≠ .defer c) :
    ∀ (fuel : Nat) (listed : Array Bool) (a : Act) (w : World), wpAnyIn Fence.wide n P md ops Q fuel listed a w → wpAnyIn (Fence.wide.inRound l) n P md ops Q fuel listed a w
  | 0, _, _, _, h => h
  | fuel + 1, listed, a, w, h => by
    refine ⟨h.1, fun i hi => ?_⟩
    have hi' := h.2 i hi
    unfold wpOpIn at hi' ⊢
    cases ho : ops[i]? with
    | none => rw [ho] at hi'; exact anyIn_round hd fuel _ _ _ hi'
    | some o =>
      rw [ho] at hi'
      simp only at hi' ⊢
      split at hi'
      · rename_i hw
        rw [if_pos hw]
        exact operIn_round (hd o (by rw [Array.mem_toList_iff]; exact Array.mem_of_getElem? ho)) (fun a w => anyIn_round hd fuel _ a w) hi'
      · rename_i hw
        rw [if_neg hw]
        exact ⟨fun _ _ => trivial, anyIn_round hd fuel _ _ _ hi'.2⟩

theorem quiet_round {id n l : Nat} {P : Program} {Q : Exit → Act → World → Prop} {a : Act} {w : World} {ops : List Oper} (hm : P.follows .mixedOrders = true) (hB : Region.lexB .any ops.toArray = true) (hd : noDefer ops = true)
    (h : wpQuiet P ops.toArray (fun w' => ∃ n, w' = w.drewN n) (fun a' => ∀ w', (∃ n, w' = w.drewN n) → Q .normal a' w') ops a) : (Code.region id ops.toArray true).wpIn (Fence.wide.inRound l) n P Q a w := by
  simp only [Region.lexB, Bool.and_eq_true] at hB
  refine wpIn_region_any hm (anyIn_round (by simpa using noDefer_spec hd) _ _ _ _ (wpAnyIn_of_quiet (C := fun w' => ∃ n, w' = w.drewN n) (Q := fun a' => ∀ w', (∃ n, w' = w.drewN n) → Q .normal a' w') rfl (fun _ w' hw' h => h w' hw') _ _ _ _ ⟨1, rfl⟩ ?_))
  have := wpAnyQIn_lex (F := Fence.wide) (n := n) (C := fun w' => ∃ n, w' = w.drewN n) (md := .any) hB.1 ops 0 (Array.replicate ops.toArray.size false) a (by simp) (by simpa using hB.2) (wpQuietIn_wide h)
  simpa using this
end Go.Proofs.YtoimbjbdkkohcaaGreatDoor
