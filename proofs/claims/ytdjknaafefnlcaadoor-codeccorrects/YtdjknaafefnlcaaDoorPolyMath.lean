/-
  The plain mathematics of polynomials over the field of 256 elements: sums, products, values, division. No program is named here.
-/
import Derived.Test.YtdjknaafefnlcaaDoorGfMath
namespace Go.Proofs.YtdjknaafefnlcaaDoor.Po
open Gf (gm gI pI)

/-- an element -/
abbrev El := BitVec 8
def mu (a b : El) : El := BitVec.ofNat 8 (gm a.toNat b.toNat)
theorem mu_toNat (a b : El) : (mu a b).toNat = gm a.toNat b.toNat := by
  unfold mu; rw [BitVec.toNat_ofNat]; exact Nat.mod_eq_of_lt (Gf.gm_lt _ _)
theorem el_ext {a b : El} (h : a.toNat = b.toNat) : a = b := BitVec.eq_of_toNat_eq h
theorem mu_comm (a b : El) : mu a b = mu b a := el_ext (by rw [mu_toNat, mu_toNat, Gf.gm_comm])
theorem mu_assoc (a b c : El) : mu (mu a b) c = mu a (mu b c) := el_ext (by simp only [mu_toNat]; exact Gf.gm_assoc _ _ _ a.isLt b.isLt c.isLt)
theorem mu_xor (a b c : El) : mu a (b ^^^ c) = mu a b ^^^ mu a c := el_ext (by
  rw [BitVec.toNat_xor, mu_toNat, mu_toNat, mu_toNat, BitVec.toNat_xor]; exact Gf.gm_xor _ _ _ a.isLt b.isLt c.isLt)
theorem xor_mu (a b c : El) : mu (a ^^^ b) c = mu a c ^^^ mu b c := by rw [mu_comm, mu_xor, mu_comm c a, mu_comm c b]
theorem mu_zero (a : El) : mu a 0 = 0 := el_ext (by rw [mu_toNat]; exact Gf.gm_zero_right _)
theorem zero_mu (a : El) : mu 0 a = 0 := by rw [mu_comm, mu_zero]
theorem mu_one (a : El) : mu a 1 = a := el_ext (by rw [mu_toNat]; exact Gf.gm_one _ a.isLt)
theorem one_mu (a : El) : mu 1 a = a := by rw [mu_comm, mu_one]
theorem mu_ne (a b : El) (h1 : a ≠ 0) (h2 : b ≠ 0) : mu a b ≠ 0 := by
  intro h
  have h' := congrArg BitVec.toNat h
  rw [mu_toNat] at h'
  exact Gf.gm_ne a.toNat b.toNat (fun e => h1 (el_ext e)) (fun e => h2 (el_ext e)) h'
theorem x0 (a : El) : a ^^^ (0 : El) = a := BitVec.xor_zero
theorem z0 (a : El) : (0 : El) ^^^ a = a := BitVec.zero_xor
theorem xor_self' (a : El) : a ^^^ a = 0 := BitVec.xor_self
theorem xor_eq_zero {a b : El} (h : a ^^^ b = 0) : a = b := by
  have : (a ^^^ b) ^^^ b = 0 ^^^ b := by rw [h]
  rwa [BitVec.xor_assoc, xor_self', x0, z0] at this
theorem xor4 (a b c d : El) : (a ^^^ b) ^^^ (c ^^^ d) = (a ^^^ c) ^^^ (b ^^^ d) := by
  rw [BitVec.xor_assoc, BitVec.xor_assoc, ← BitVec.xor_assoc b c d, ← BitVec.xor_assoc c b d, BitVec.xor_comm b c]

/-- the sum of the first n -/
def S (n : Nat) (f : Nat → El) : El :=
  match n with
  | 0 => 0
  | n + 1 => S n f ^^^ f n
theorem S_congr (n : Nat) (f g : Nat → El) (h : ∀ i, i < n → f i = g i) : S n f = S n g := by
  induction n with
  | zero => rfl
  | succ n ih => simp only [S]; rw [ih (fun i hi => h i (by omega)), h n (by omega)]
theorem S_zero (n : Nat) : S n (fun _ => 0) = 0 := by
  induction n with
  | zero => rfl
  | succ n ih => simp only [S, ih]; rfl
theorem S_null (n : Nat) (f : Nat → El) (h : ∀ i, i < n → f i = 0) : S n f = 0 := by rw [S_congr n f (fun _ => 0) h, S_zero]
theorem S_xor (n : Nat) (f g : Nat → El) : S n (fun i => f i ^^^ g i) = S n f ^^^ S n g := by
  induction n with
  | zero => exact (z0 0).symm
  | succ n ih => simp only [S, ih]; exact xor4 _ _ _ _
theorem mu_S (n : Nat) (a : El) (f : Nat → El) : mu a (S n f) = S n (fun i => mu a (f i)) := by
  induction n with
  | zero => exact mu_zero a
  | succ n ih => simp only [S, mu_xor, ih]
theorem S_mu (n : Nat) (a : El) (f : Nat → El) : mu (S n f) a = S n (fun i => mu (f i) a) := by
  rw [mu_comm, mu_S]; exact S_congr _ _ _ (fun i _ => mu_comm _ _)
theorem S_more (n m : Nat) (f : Nat → El) (h : ∀ i, n ≤ i → f i = 0) (hm : n ≤ m) : S m f = S n f := by
  induction m with
  | zero => have : n = 0 := by omega
            subst this; rfl
  | succ m ih =>
    by_cases e : n = m + 1
    · subst e; rfl
    · simp only [S]; rw [ih (by omega), h m (by omega)]; exact x0 _
theorem S_first (n : Nat) (f : Nat → El) : S (n + 1) f = f 0 ^^^ S n (fun i => f (i + 1)) := by
  induction n with
  | zero => simp only [S]; rw [z0, x0]
  | succ n ih =>
    have : S (n + 1 + 1) f = S (n + 1) f ^^^ f (n + 1) := rfl
    rw [this, ih, BitVec.xor_assoc]; rfl
theorem S_rev (n : Nat) (f : Nat → El) : S (n + 1) (fun i => f (n - i)) = S (n + 1) f := by
  induction n with
  | zero => rfl
  | succ n ih =>
    rw [S_first]
    have : S (n + 1) (fun i => f (n + 1 - (i + 1))) = S (n + 1) (fun i => f (n - i)) := S_congr _ _ _ (fun i _ => by rw [show n + 1 - (i + 1) = n - i from by omega])
    rw [this, ih, Nat.sub_zero, BitVec.xor_comm]; rfl
/-- only one is there -/
theorem S_one (n k : Nat) (f : Nat → El) (hk : k < n) (h : ∀ i, i < n → i ≠ k → f i = 0) : S n f = f k := by
  induction n with
  | zero => omega
  | succ n ih =>
    simp only [S]
    by_cases e : k = n
    · subst e; rw [S_null k f (fun i hi => h i (by omega) (by omega)), z0]
    · rw [ih (by omega) (fun i hi hne => h i (by omega) hne), h n (by omega) (by omega), x0]
theorem S_tri (k : Nat) (f : Nat → Nat → El) : S (k + 1) (fun i => S (i + 1) (fun j => f j (i - j))) = S (k + 1) (fun j => S (k - j + 1) (fun l => f j l)) := by
  induction k with
  | zero => rfl
  | succ k ih =>
    have e1 : S (k + 1 + 1) (fun i => S (i + 1) (fun j => f j (i - j))) = S (k + 1) (fun i => S (i + 1) (fun j => f j (i - j))) ^^^ S (k + 1 + 1) (fun j => f j (k + 1 - j)) := rfl
    have e2 : S (k + 1 + 1) (fun j => S (k + 1 - j + 1) (fun l => f j l)) = S (k + 1) (fun j => S (k + 1 - j + 1) (fun l => f j l)) ^^^ S (k + 1 - (k + 1) + 1) (fun l => f (k + 1) l) := rfl
    have e3 : S (k + 1) (fun j => S (k + 1 - j + 1) (fun l => f j l)) = S (k + 1) (fun j => S (k - j + 1) (fun l => f j l)) ^^^ S (k + 1) (fun j => f j (k + 1 - j)) := by
      rw [← S_xor]
      refine S_congr _ _ _ (fun j hj => ?_)
      rw [show k + 1 - j + 1 = (k - j + 1) + 1 from by omega]
      simp only [S]
      rw [show k + 1 - j = k - j + 1 from by omega]
    have e4 : S (k + 1 + 1) (fun j => f j (k + 1 - j)) = S (k + 1) (fun j => f j (k + 1 - j)) ^^^ f (k + 1) 0 := by
      show S (k + 1) _ ^^^ f (k + 1) (k + 1 - (k + 1)) = _
      rw [Nat.sub_self]
    have e5 : S (k + 1 - (k + 1) + 1) (fun l => f (k + 1) l) = f (k + 1) 0 := by
      rw [Nat.sub_self]; simp only [S]; exact z0 _
    rw [e1, e2, e3, e4, e5, ih, BitVec.xor_assoc]

-- POLYNOMIALS: their coefficients
def cv (p q : Nat → El) (k : Nat) : El := S (k + 1) (fun i => mu (p i) (q (k - i)))
theorem cv_comm (p q : Nat → El) (k : Nat) : cv p q k = cv q p k := by
  unfold cv
  rw [← S_rev k (fun i => mu (p i) (q (k - i)))]
  refine S_congr _ _ _ (fun i hi => ?_)
  rw [show k - (k - i) = i from by omega, mu_comm]
theorem cv_congr (p p' q q' : Nat → El) (k : Nat) (h1 : ∀ i, i ≤ k → p i = p' i) (h2 : ∀ i, i ≤ k → q i = q' i) : cv p q k = cv p' q' k :=
  S_congr _ _ _ (fun i hi => by rw [h1 i (by omega), h2 (k - i) (by omega)])
theorem cv_xor_left (p q r : Nat → El) (k : Nat) : cv (fun i => p i ^^^ q i) r k = cv p r k ^^^ cv q r k := by
  unfold cv; rw [← S_xor]; exact S_congr _ _ _ (fun i _ => xor_mu _ _ _)
theorem cv_assoc (p q r : Nat → El) (k : Nat) : cv (cv p q) r k = cv p (cv q r) k := by
  have h1 : cv (cv p q) r k = S (k + 1) (fun i => S (i + 1) (fun j => (fun a b => mu (mu (p a) (q b)) (r (k - (a + b)))) j (i - j))) := by
    unfold cv
    refine S_congr _ _ _ (fun i _ => ?_)
    rw [S_mu]
    exact S_congr _ _ _ (fun j hj => by show _ = mu (mu (p j) (q (i - j))) (r (k - (j + (i - j)))); rw [show j + (i - j) = i from by omega])
  rw [h1, S_tri k (fun a b => mu (mu (p a) (q b)) (r (k - (a + b))))]
  unfold cv
  refine S_congr _ _ _ (fun j hj => ?_)
  rw [mu_S]
  exact S_congr _ _ _ (fun l hl => by rw [mu_assoc, show k - (j + l) = k - j - l from by omega])
/-- below n all is there -/
def Low (n : Nat) (p : Nat → El) : Prop := ∀ i, n ≤ i → p i = 0
theorem Low.mono {n m : Nat} {p : Nat → El} (h : Low n p) (hm : n ≤ m) : Low m p := fun i hi => h i (by omega)
theorem Low.xor {n : Nat} {p q : Nat → El} (h : Low n p) (k : Low n q) : Low n (fun i => p i ^^^ q i) := fun i hi => by
  show p i ^^^ q i = 0
  rw [h i hi, k i hi]; rfl
theorem cv_low {a b : Nat} {p q : Nat → El} (hp : Low a p) (hq : Low b q) : Low (a + b - 1) (cv p q) := by
  intro k hk
  refine S_null _ _ (fun i hi => ?_)
  by_cases h : a ≤ i
  · rw [hp i h, zero_mu]
  · rw [hq (k - i) (by omega), mu_zero]
/-- the greatest coefficients multiply -/
theorem cv_top {a b : Nat} {p q : Nat → El} (hp : Low (a + 1) p) (hq : Low (b + 1) q) : cv p q (a + b) = mu (p a) (q b) := by
  unfold cv
  rw [S_one _ a _ (by omega) (fun i hi hne => ?_)]
  · rw [show a + b - a = b from by omega]
  · by_cases h : a + 1 ≤ i
    · rw [hp i h, zero_mu]
    · rw [hq (a + b - i) (by omega), mu_zero]
/-- a product with q that is lower than q is nothing -/
theorem cv_lower {n d : Nat} {u q : Nat → El} (hu : Low n u) (hq : Low (d + 1) q) (hd : q d ≠ 0) (h : Low d (cv u q)) : ∀ i, u i = 0 := by
  induction n with
  | zero => exact fun i => hu i (by omega)
  | succ n ih =>
    refine ih (fun i hi => ?_)
    by_cases e : i = n
    · subst e
      by_cases hz : u i = 0
      · exact hz
      · have h1 := cv_top hu hq
        rw [h (i + d) (by omega)] at h1
        exact absurd h1.symm (mu_ne _ _ hz hd)
    · exact hu i (by omega)
/-- what is left of a division is told by that alone -/
theorem mod_unique {n m d : Nat} {t u q r s : Nat → El} (ht : Low n t) (hu : Low m u) (hq : Low (d + 1) q) (hd : q d ≠ 0) (hr : Low d r) (hs : Low d s) (h : ∀ k, cv t q k ^^^ r k = cv u q k ^^^ s k) : ∀ k, r k = s k := by
  have hx : ∀ k, cv (fun i => t i ^^^ u i) q k = r k ^^^ s k := by
    intro k
    rw [cv_xor_left]
    have := h k
    have e : (cv t q k ^^^ cv u q k) ^^^ (r k ^^^ s k) = 0 := by
      rw [xor4, this]; exact BitVec.xor_self
    exact xor_eq_zero e
  have hlow : Low d (cv (fun i => t i ^^^ u i) q) := fun k hk => by rw [hx k, hr k hk, hs k hk]; rfl
  have hz := cv_lower (n := n + m) (Low.xor (ht.mono (by omega)) (hu.mono (by omega))) hq hd hlow
  intro k
  have h0 : cv (fun i => t i ^^^ u i) q k = 0 := S_null _ _ (fun i _ => by show mu (t i ^^^ u i) _ = 0; rw [hz i, zero_mu])
  rw [hx k] at h0
  exact xor_eq_zero h0

-- VALUES
def pwr (x : El) : Nat → El
  | 0 => 1
  | n + 1 => mu (pwr x n) x
theorem pwr_add (x : El) (n m : Nat) : pwr x (n + m) = mu (pwr x n) (pwr x m) := by
  induction m with
  | zero => exact (mu_one _).symm
  | succ m ih => show mu (pwr x (n + m)) x = mu (pwr x n) (mu (pwr x m) x); rw [ih, mu_assoc]
def ev (n : Nat) (p : Nat → El) (x : El) : El := S n (fun i => mu (p i) (pwr x i))
theorem ev_more {n m : Nat} {p : Nat → El} (h : Low n p) (hm : n ≤ m) (x : El) : ev m p x = ev n p x :=
  S_more _ _ _ (fun i hi => by rw [h i hi, zero_mu]) hm
theorem ev_xor (n : Nat) (p q : Nat → El) (x : El) : ev n (fun i => p i ^^^ q i) x = ev n p x ^^^ ev n q x := by
  unfold ev; rw [← S_xor]; exact S_congr _ _ _ (fun i _ => xor_mu _ _ _)
theorem ev_scale (n : Nat) (p : Nat → El) (a x : El) : ev n (fun i => mu (p i) a) x = mu (ev n p x) a := by
  unfold ev; rw [S_mu]; exact S_congr _ _ _ (fun i _ => by rw [mu_assoc, mu_assoc, mu_comm a])
theorem ev_cv {a b : Nat} {p q : Nat → El} (hp : Low a p) (hq : Low b q) (x : El) : ev (a + b) (cv p q) x = mu (ev a p x) (ev b q x) := by
  cases a with
  | zero =>
    have h0 : ev 0 p x = 0 := rfl
    rw [h0, zero_mu]
    exact S_null _ _ (fun k _ => by
      have : cv p q k = 0 := S_null _ _ (fun i _ => by rw [hp i (by omega), zero_mu])
      rw [this, zero_mu])
  | succ a =>
    have e1 : ev (a + 1 + b) (cv p q) x = S (a + b + 1) (fun i => S (i + 1) (fun j => (fun c e => mu (mu (p c) (pwr x c)) (mu (q e) (pwr x e))) j (i - j))) := by
      unfold ev
      rw [show a + 1 + b = a + b + 1 from by omega]
      refine S_congr _ _ _ (fun i _ => ?_)
      unfold cv
      rw [S_mu]
      refine S_congr _ _ _ (fun j hj => ?_)
      show mu (mu (p j) (q (i - j))) (pwr x i) = mu (mu (p j) (pwr x j)) (mu (q (i - j)) (pwr x (i - j)))
      have hi : pwr x i = mu (pwr x j) (pwr x (i - j)) := by rw [← pwr_add, show j + (i - j) = i from by omega]
      rw [hi, mu_assoc, mu_assoc, ← mu_assoc (q (i - j)), ← mu_assoc (pwr x j), mu_comm (q (i - j)) (pwr x j)]
    rw [e1, S_tri (a + b) (fun c e => mu (mu (p c) (pwr x c)) (mu (q e) (pwr x e)))]
    have e2 : ∀ j, j < a + b + 1 → S (a + b - j + 1) (fun l => mu (mu (p j) (pwr x j)) (mu (q l) (pwr x l))) = mu (mu (p j) (pwr x j)) (ev b q x) := by
      intro j hj
      rw [← mu_S]
      by_cases h : a + 1 ≤ j
      · rw [hp j h, zero_mu, zero_mu, zero_mu]
      · have : S (a + b - j + 1) (fun l => mu (q l) (pwr x l)) = ev b q x := ev_more hq (by omega) x
        rw [this]
    rw [S_congr _ _ _ e2, ← S_mu]
    congr 1
    exact ev_more hp (by omega) x

-- THE BYTES OF THE PROGRAM AS ELEMENTS
def toE (a : Int) : El := BitVec.ofInt 8 a
theorem toE_nat (n : Nat) (h : n < 256) : (toE (n : Int)).toNat = n := ofInt_u8 n h
theorem toE_toNat (a : Int) (h0 : 0 ≤ a) (h1 : a < 256) : (((toE a).toNat : Nat) : Int) = a := by
  obtain ⟨n, rfl⟩ := Int.eq_ofNat_of_zero_le h0
  rw [toE_nat n (by omega)]
theorem toE_inj {a b : Int} (ha0 : 0 ≤ a) (ha1 : a < 256) (hb0 : 0 ≤ b) (hb1 : b < 256) (h : toE a = toE b) : a = b := by
  rw [← toE_toNat a ha0 ha1, ← toE_toNat b hb0 hb1, h]
theorem toE_zero : toE 0 = 0 := rfl
theorem toE_one : toE 1 = 1 := rfl
theorem toE_xor (a b : Int) (ha0 : 0 ≤ a) (ha1 : a < 256) (hb0 : 0 ≤ b) (hb1 : b < 256) : toE (bits .xor .u8 a b) = toE a ^^^ toE b := by
  obtain ⟨n, rfl⟩ := Int.eq_ofNat_of_zero_le ha0
  obtain ⟨m, rfl⟩ := Int.eq_ofNat_of_zero_le hb0
  rw [u8_xor_nat n m (by omega) (by omega)]
  refine el_ext ?_
  have hx : n ^^^ m < 2 ^ 8 := Nat.xor_lt_two_pow (by omega) (by omega)
  rw [toE_nat _ (by omega), BitVec.toNat_xor, toE_nat _ (by omega), toE_nat _ (by omega)]
theorem toE_gI (a b : Int) (ha0 : 0 ≤ a) (ha1 : a < 256) (hb0 : 0 ≤ b) (hb1 : b < 256) : toE (gI a b) = mu (toE a) (toE b) := by
  obtain ⟨n, rfl⟩ := Int.eq_ofNat_of_zero_le ha0
  obtain ⟨m, rfl⟩ := Int.eq_ofNat_of_zero_le hb0
  refine el_ext ?_
  rw [mu_toNat, toE_nat n (by omega), toE_nat m (by omega)]
  unfold gI
  simp only [Int.toNat_natCast]
  rw [toE_nat _ (Gf.gm_lt _ _)]
theorem toE_pI (a : Int) (ha0 : 0 ≤ a) (ha1 : a < 256) (n : Nat) : toE (pI a n) = pwr (toE a) n := by
  induction n with
  | zero => rfl
  | succ n ih =>
    have h := Gf.pI_bd a n
    rw [show ((n + 1 : Nat) : Int) = (n : Int) + 1 from by omega, Gf.pI_step a n (by omega), toE_gI _ _ h.1 h.2 ha0 ha1, ih]; rfl
theorem toE_eq_zero (a : Int) (h0 : 0 ≤ a) (h1 : a < 256) : toE a = 0 ↔ a = 0 := by
  constructor
  · intro h; exact toE_inj h0 h1 (by decide) (by decide) (by rw [h]; rfl)
  · intro h; subst h; rfl
/-- a list's coefficients -/
def cf (l : List Int) (i : Nat) : El := toE (l[i]?.getD 0)
theorem cf_low (l : List Int) : Low l.length (cf l) := fun i hi => by
  unfold cf; rw [List.getElem?_eq_none hi]; rfl

-- ROOTS
def one : Nat → El := fun i => if i = 0 then 1 else 0
def lin (r : El) : Nat → El := fun i => if i = 0 then r else if i = 1 then 1 else 0
def rts : List El → Nat → El
  | [] => one
  | r :: rs => cv (rts rs) (lin r)
theorem lin_low (r : El) : Low 2 (lin r) := fun i hi => by unfold lin; rw [if_neg (by omega), if_neg (by omega)]
theorem rts_low (l : List El) : Low (l.length + 1) (rts l) := by
  induction l with
  | nil => intro i hi; show one i = 0; unfold one; exact if_neg (by simp at hi; omega)
  | cons r rs ih =>
    have h := cv_low ih (lin_low r)
    intro i hi
    exact h i (by simp only [List.length_cons] at hi; omega)
theorem rts_top (l : List El) : rts l l.length = 1 := by
  induction l with
  | nil => rfl
  | cons r rs ih =>
    show cv (rts rs) (lin r) (rs.length + 1) = 1
    rw [cv_top (rts_low rs) (lin_low r), ih, one_mu]; rfl
theorem ev_lin (r x : El) : ev 2 (lin r) x = r ^^^ x := by
  show (0 ^^^ mu r 1) ^^^ mu 1 (mu 1 x) = _
  rw [z0, mu_one, one_mu, one_mu]
theorem ev_rts (l : List El) (x : El) : ev (l.length + 1) (rts l) x = 0 ↔ x ∈ l := by
  induction l with
  | nil =>
    have : ev 1 (rts []) x = 1 := by show 0 ^^^ mu 1 1 = 1; rw [z0, mu_one]
    show ev 1 (rts []) x = 0 ↔ _
    rw [this]; simp
  | cons r rs ih =>
    have h := ev_cv (rts_low rs) (lin_low r) x
    have hl : ev ((r :: rs).length + 1) (rts (r :: rs)) x = mu (ev (rs.length + 1) (rts rs) x) (r ^^^ x) := by
      rw [← ev_lin r x, ← h]
      show ev (rs.length + 1 + 1) (cv (rts rs) (lin r)) x = _
      exact (ev_more (cv_low (rts_low rs) (lin_low r)) (by omega) x).trans (ev_more (cv_low (rts_low rs) (lin_low r)) (by omega) x).symm
    rw [hl]
    constructor
    · intro h0
      by_cases h1 : ev (rs.length + 1) (rts rs) x = 0
      · exact List.mem_cons_of_mem _ (ih.1 h1)
      · by_cases h2 : r ^^^ x = 0
        · rw [xor_eq_zero h2]; exact List.mem_cons_self
        · exact absurd h0 (mu_ne _ _ h1 h2)
    · intro h0
      rcases List.mem_cons.1 h0 with h0 | h0
      · rw [h0, xor_self', mu_zero]
      · rw [ih.2 h0, zero_mu]

end Go.Proofs.YtdjknaafefnlcaaDoor.Po
