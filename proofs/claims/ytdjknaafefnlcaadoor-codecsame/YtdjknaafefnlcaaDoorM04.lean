/-
  Texts of one family, one behind another: PolyMath, RsMath, RsW1, RsW2, RsW3, RsW4, RsW5, GfLaws, GfW4, Bytes, GfW5, GfW6, PolyW1, PolyW2.
-/
import Derived.Test.YtdjknaafefnlcaaDoorM03
import Derived.Test.YtdjknaafefnlcaaDoorM01
import Derived.Deep.MidRow
import Derived.Deep.RegionHeld3
import Derived.Deep.DeepCutAuto
import Derived.Shelf.Abstract
import Derived.OpenShut
import Derived.Test.YtdjknaafefnlcaaDoorRows
import Derived.WalkKit
import Derived.WalkSpells
import Derived.WalkLawsBesides
import Derived.Below
import Derived.Deep.OwnRows
import Derived.BigRegion
import Derived.Deep.RegionWith

/-
  The plain mathematics of polynomials over the field of 256 elements: sums, products, values, division. No program is named here.
-/
namespace Go.Proofs.YtdjknaafefnlcaaDoor.Po
open Gf (gm gI pI)

/-- an element -/
abbrev El := BitVec 8
def mu (a b : El) : El := BitVec.ofNat 8 (gm a.toNat b.toNat)
theorem mu_toNat (a b : El) : (mu a b).toNat = gm a.toNat b.toNat := by
  unfold mu; rw [BitVec.toNat_ofNat]; exact Nat.mod_eq_of_lt (Gf.gm_lt _ _)
theorem el_ext {a b : El} (h : a.toNat = b.toNat) : a = b := BitVec.eq_of_toNat_eq h
theorem mu_comm (a b : El) : mu a b = mu b a := el_ext (by rw [mu_toNat, mu_toNat, Gf.gm_comm])
theorem mu_assoc (a b c : El) : mu (mu a b) c = mu a (mu b c) := el_ext (by simp only [mu_toNat]; exact Gf.gm_assoc _ _ _ a.isLt b.isLt c.isLt)
theorem mu_xor (a b c : El) : mu a (b ^^^ c) = mu a b ^^^ mu a c := el_ext (by
  rw [BitVec.toNat_xor, mu_toNat, mu_toNat, mu_toNat, BitVec.toNat_xor]; exact Gf.gm_xor _ _ _ a.isLt b.isLt c.isLt)
theorem xor_mu (a b c : El) : mu (a ^^^ b) c = mu a c ^^^ mu b c := by rw [mu_comm, mu_xor, mu_comm c a, mu_comm c b]
theorem mu_zero (a : El) : mu a 0 = 0 := el_ext (by rw [mu_toNat]; exact Gf.gm_zero_right _)
theorem zero_mu (a : El) : mu 0 a = 0 := by rw [mu_comm, mu_zero]
theorem mu_one (a : El) : mu a 1 = a := el_ext (by rw [mu_toNat]; exact Gf.gm_one _ a.isLt)
theorem one_mu (a : El) : mu 1 a = a := by rw [mu_comm, mu_one]
theorem mu_ne (a b : El) (h1 : a ≠ 0) (h2 : b ≠ 0) : mu a b ≠ 0 := by
  intro h
  have h' := congrArg BitVec.toNat h
  rw [mu_toNat] at h'
  exact Gf.gm_ne a.toNat b.toNat (fun e => h1 (el_ext e)) (fun e => h2 (el_ext e)) h'
theorem x0 (a : El) : a ^^^ (0 : El) = a := BitVec.xor_zero
theorem z0 (a : El) : (0 : El) ^^^ a = a := BitVec.zero_xor
theorem xor_self' (a : El) : a ^^^ a = 0 := BitVec.xor_self
theorem xor_eq_zero {a b : El} (h : a ^^^ b = 0) : a = b := by
  have : (a ^^^ b) ^^^ b = 0 ^^^ b := by rw [h]
  rwa [BitVec.xor_assoc, xor_self', x0, z0] at this
theorem xor4 (a b c d : El) : (a ^^^ b) ^^^ (c ^^^ d) = (a ^^^ c) ^^^ (b ^^^ d) := by
  rw [BitVec.xor_assoc, BitVec.xor_assoc, ← BitVec.xor_assoc b c d, ← BitVec.xor_assoc c b d, BitVec.xor_comm b c]

/-- the sum of the first n -/
def S (n : Nat) (f : Nat → El) : El :=
  match n with
  | 0 => 0
  | n + 1 => S n f ^^^ f n
theorem S_congr (n : Nat) (f g : Nat → El) (h : ∀ i, i < n → f i = g i) : S n f = S n g := by
  induction n with
  | zero => rfl
  | succ n ih => simp only [S]; rw [ih (fun i hi => h i (by omega)), h n (by omega)]
theorem S_zero (n : Nat) : S n (fun _ => 0) = 0 := by
  induction n with
  | zero => rfl
  | succ n ih => simp only [S, ih]; rfl
theorem S_null (n : Nat) (f : Nat → El) (h : ∀ i, i < n → f i = 0) : S n f = 0 := by rw [S_congr n f (fun _ => 0) h, S_zero]
theorem S_xor (n : Nat) (f g : Nat → El) : S n (fun i => f i ^^^ g i) = S n f ^^^ S n g := by
  induction n with
  | zero => exact (z0 0).symm
  | succ n ih => simp only [S, ih]; exact xor4 _ _ _ _
theorem mu_S (n : Nat) (a : El) (f : Nat → El) : mu a (S n f) = S n (fun i => mu a (f i)) := by
  induction n with
  | zero => exact mu_zero a
  | succ n ih => simp only [S, mu_xor, ih]
theorem S_mu (n : Nat) (a : El) (f : Nat → El) : mu (S n f) a = S n (fun i => mu (f i) a) := by
  rw [mu_comm, mu_S]; exact S_congr _ _ _ (fun i _ => mu_comm _ _)
theorem S_more (n m : Nat) (f : Nat → El) (h : ∀ i, n ≤ i → f i = 0) (hm : n ≤ m) : S m f = S n f := by
  induction m with
  | zero => have : n = 0 := by omega
            subst this; rfl
  | succ m ih =>
    by_cases e : n = m + 1
    · subst e; rfl
    · simp only [S]; rw [ih (by omega), h m (by omega)]; exact x0 _
theorem S_first (n : Nat) (f : Nat → El) : S (n + 1) f = f 0 ^^^ S n (fun i => f (i + 1)) := by
  induction n with
  | zero => simp only [S]; rw [z0, x0]
  | succ n ih =>
    have : S (n + 1 + 1) f = S (n + 1) f ^^^ f (n + 1) := rfl
    rw [this, ih, BitVec.xor_assoc]; rfl
theorem S_rev (n : Nat) (f : Nat → El) : S (n + 1) (fun i => f (n - i)) = S (n + 1) f := by
  induction n with
  | zero => rfl
  | succ n ih =>
    rw [S_first]
    have : S (n + 1) (fun i => f (n + 1 - (i + 1))) = S (n + 1) (fun i => f (n - i)) := S_congr _ _ _ (fun i _ => by rw [show n + 1 - (i + 1) = n - i from by omega])
    rw [this, ih, Nat.sub_zero, BitVec.xor_comm]; rfl
/-- only one is there -/
theorem S_one (n k : Nat) (f : Nat → El) (hk : k < n) (h : ∀ i, i < n → i ≠ k → f i = 0) : S n f = f k := by
  induction n with
  | zero => omega
  | succ n ih =>
    simp only [S]
    by_cases e : k = n
    · subst e; rw [S_null k f (fun i hi => h i (by omega) (by omega)), z0]
    · rw [ih (by omega) (fun i hi hne => h i (by omega) hne), h n (by omega) (by omega), x0]
theorem S_tri (k : Nat) (f : Nat → Nat → El) : S (k + 1) (fun i => S (i + 1) (fun j => f j (i - j))) = S (k + 1) (fun j => S (k - j + 1) (fun l => f j l)) := by
  induction k with
  | zero => rfl
  | succ k ih =>
    have e1 : S (k + 1 + 1) (fun i => S (i + 1) (fun j => f j (i - j))) = S (k + 1) (fun i => S (i + 1) (fun j => f j (i - j))) ^^^ S (k + 1 + 1) (fun j => f j (k + 1 - j)) := rfl
    have e2 : S (k + 1 + 1) (fun j => S (k + 1 - j + 1) (fun l => f j l)) = S (k + 1) (fun j => S (k + 1 - j + 1) (fun l => f j l)) ^^^ S (k + 1 - (k + 1) + 1) (fun l => f (k + 1) l) := rfl
    have e3 : S (k + 1) (fun j => S (k + 1 - j + 1) (fun l => f j l)) = S (k + 1) (fun j => S (k - j + 1) (fun l => f j l)) ^^^ S (k + 1) (fun j => f j (k + 1 - j)) := by
      rw [← S_xor]
      refine S_congr _ _ _ (fun j hj => ?_)
      rw [show k + 1 - j + 1 = (k - j + 1) + 1 from by omega]
      simp only [S]
      rw [show k + 1 - j = k - j + 1 from by omega]
    have e4 : S (k + 1 + 1) (fun j => f j (k + 1 - j)) = S (k + 1) (fun j => f j (k + 1 - j)) ^^^ f (k + 1) 0 := by
      show S (k + 1) _ ^^^ f (k + 1) (k + 1 - (k + 1)) = _
      rw [Nat.sub_self]
    have e5 : S (k + 1 - (k + 1) + 1) (fun l => f (k + 1) l) = f (k + 1) 0 := by
      rw [Nat.sub_self]; simp only [S]; exact z0 _
    rw [e1, e2, e3, e4, e5, ih, BitVec.xor_assoc]

-- POLYNOMIALS: their coefficients
def cv (p q : Nat → El) (k : Nat) : El := S (k + 1) (fun i => mu (p i) (q (k - i)))
theorem cv_comm (p q : Nat → El) (k : Nat) : cv p q k = cv q p k := by
  unfold cv
  rw [← S_rev k (fun i => mu (p i) (q (k - i)))]
  refine S_congr _ _ _ (fun i hi => ?_)
  rw [show k - (k - i) = i from by omega, mu_comm]
theorem cv_congr (p p' q q' : Nat → El) (k : Nat) (h1 : ∀ i, i ≤ k → p i = p' i) (h2 : ∀ i, i ≤ k → q i = q' i) : cv p q k = cv p' q' k :=
  S_congr _ _ _ (fun i hi => by rw [h1 i (by omega), h2 (k - i) (by omega)])
theorem cv_xor_left (p q r : Nat → El) (k : Nat) : cv (fun i => p i ^^^ q i) r k = cv p r k ^^^ cv q r k := by
  unfold cv; rw [← S_xor]; exact S_congr _ _ _ (fun i _ => xor_mu _ _ _)
theorem cv_assoc (p q r : Nat → El) (k : Nat) : cv (cv p q) r k = cv p (cv q r) k := by
  have h1 : cv (cv p q) r k = S (k + 1) (fun i => S (i + 1) (fun j => (fun a b => mu (mu (p a) (q b)) (r (k - (a + b)))) j (i - j))) := by
    unfold cv
    refine S_congr _ _ _ (fun i _ => ?_)
    rw [S_mu]
    exact S_congr _ _ _ (fun j hj => by show _ = mu (mu (p j) (q (i - j))) (r (k - (j + (i - j)))); rw [show j + (i - j) = i from by omega])
  rw [h1, S_tri k (fun a b => mu (mu (p a) (q b)) (r (k - (a + b))))]
  unfold cv
  refine S_congr _ _ _ (fun j hj => ?_)
  rw [mu_S]
  exact S_congr _ _ _ (fun l hl => by rw [mu_assoc, show k - (j + l) = k - j - l from by omega])
/-- below n all is there -/
def Low (n : Nat) (p : Nat → El) : Prop := ∀ i, n ≤ i → p i = 0
theorem Low.mono {n m : Nat} {p : Nat → El} (h : Low n p) (hm : n ≤ m) : Low m p := fun i hi => h i (by omega)
theorem Low.xor {n : Nat} {p q : Nat → El} (h : Low n p) (k : Low n q) : Low n (fun i => p i ^^^ q i) := fun i hi => by
  show p i ^^^ q i = 0
  rw [h i hi, k i hi]; rfl
theorem cv_low {a b : Nat} {p q : Nat → El} (hp : Low a p) (hq : Low b q) : Low (a + b - 1) (cv p q) := by
  intro k hk
  refine S_null _ _ (fun i hi => ?_)
  by_cases h : a ≤ i
  · rw [hp i h, zero_mu]
  · rw [hq (k - i) (by omega), mu_zero]
/-- the greatest coefficients multiply -/
theorem cv_top {a b : Nat} {p q : Nat → El} (hp : Low (a + 1) p) (hq : Low (b + 1) q) : cv p q (a + b) = mu (p a) (q b) := by
  unfold cv
  rw [S_one _ a _ (by omega) (fun i hi hne => ?_)]
  · rw [show a + b - a = b from by omega]
  · by_cases h : a + 1 ≤ i
    · rw [hp i h, zero_mu]
    · rw [hq (a + b - i) (by omega), mu_zero]
/-- a product with q that is lower than q is nothing -/
theorem cv_lower {n d : Nat} {u q : Nat → El} (hu : Low n u) (hq : Low (d + 1) q) (hd : q d ≠ 0) (h : Low d (cv u q)) : ∀ i, u i = 0 := by
  induction n with
  | zero => exact fun i => hu i (by omega)
  | succ n ih =>
    refine ih (fun i hi => ?_)
    by_cases e : i = n
    · subst e
      by_cases hz : u i = 0
      · exact hz
      · have h1 := cv_top hu hq
        rw [h (i + d) (by omega)] at h1
        exact absurd h1.symm (mu_ne _ _ hz hd)
    · exact hu i (by omega)
/-- what is left of a division is told by that alone -/
theorem mod_unique {n m d : Nat} {t u q r s : Nat → El} (ht : Low n t) (hu : Low m u) (hq : Low (d + 1) q) (hd : q d ≠ 0) (hr : Low d r) (hs : Low d s) (h : ∀ k, cv t q k ^^^ r k = cv u q k ^^^ s k) : ∀ k, r k = s k := by
  have hx : ∀ k, cv (fun i => t i ^^^ u i) q k = r k ^^^ s k := by
    intro k
    rw [cv_xor_left]
    have := h k
    have e : (cv t q k ^^^ cv u q k) ^^^ (r k ^^^ s k) = 0 := by
      rw [xor4, this]; exact BitVec.xor_self
    exact xor_eq_zero e
  have hlow : Low d (cv (fun i => t i ^^^ u i) q) := fun k hk => by rw [hx k, hr k hk, hs k hk]; rfl
  have hz := cv_lower (n := n + m) (Low.xor (ht.mono (by omega)) (hu.mono (by omega))) hq hd hlow
  intro k
  have h0 : cv (fun i => t i ^^^ u i) q k = 0 := S_null _ _ (fun i _ => by show mu (t i ^^^ u i) _ = 0; rw [hz i, zero_mu])
  rw [hx k] at h0
  exact xor_eq_zero h0

-- VALUES
def pwr (x : El) : Nat → El
  | 0 => 1
  | n + 1 => mu (pwr x n) x
theorem pwr_add (x : El) (n m : Nat) : pwr x (n + m) = mu (pwr x n) (pwr x m) := by
  induction m with
  | zero => exact (mu_one _).symm
  | succ m ih => show mu (pwr x (n + m)) x = mu (pwr x n) (mu (pwr x m) x); rw [ih, mu_assoc]
def ev (n : Nat) (p : Nat → El) (x : El) : El := S n (fun i => mu (p i) (pwr x i))
theorem ev_more {n m : Nat} {p : Nat → El} (h : Low n p) (hm : n ≤ m) (x : El) : ev m p x = ev n p x :=
  S_more _ _ _ (fun i hi => by rw [h i hi, zero_mu]) hm
theorem ev_xor (n : Nat) (p q : Nat → El) (x : El) : ev n (fun i => p i ^^^ q i) x = ev n p x ^^^ ev n q x := by
  unfold ev; rw [← S_xor]; exact S_congr _ _ _ (fun i _ => xor_mu _ _ _)
theorem ev_scale (n : Nat) (p : Nat → El) (a x : El) : ev n (fun i => mu (p i) a) x = mu (ev n p x) a := by
  unfold ev; rw [S_mu]; exact S_congr _ _ _ (fun i _ => by rw [mu_assoc, mu_assoc, mu_comm a])
theorem ev_cv {a b : Nat} {p q : Nat → El} (hp : Low a p) (hq : Low b q) (x : El) : ev (a + b) (cv p q) x = mu (ev a p x) (ev b q x) := by
  cases a with
  | zero =>
    have h0 : ev 0 p x = 0 := rfl
    rw [h0, zero_mu]
    exact S_null _ _ (fun k _ => by
      have : cv p q k = 0 := S_null _ _ (fun i _ => by rw [hp i (by omega), zero_mu])
      rw [this, zero_mu])
  | succ a =>
    have e1 : ev (a + 1 + b) (cv p q) x = S (a + b + 1) (fun i => S (i + 1) (fun j => (fun c e => mu (mu (p c) (pwr x c)) (mu (q e) (pwr x e))) j (i - j))) := by
      unfold ev
      rw [show a + 1 + b = a + b + 1 from by omega]
      refine S_congr _ _ _ (fun i _ => ?_)
      unfold cv
      rw [S_mu]
      refine S_congr _ _ _ (fun j hj => ?_)
      show mu (mu (p j) (q (i - j))) (pwr x i) = mu (mu (p j) (pwr x j)) (mu (q (i - j)) (pwr x (i - j)))
      have hi : pwr x i = mu (pwr x j) (pwr x (i - j)) := by rw [← pwr_add, show j + (i - j) = i from by omega]
      rw [hi, mu_assoc, mu_assoc, ← mu_assoc (q (i - j)), ← mu_assoc (pwr x j), mu_comm (q (i - j)) (pwr x j)]
    rw [e1, S_tri (a + b) (fun c e => mu (mu (p c) (pwr x c)) (mu (q e) (pwr x e)))]
    have e2 : ∀ j, j < a + b + 1 → S (a + b - j + 1) (fun l => mu (mu (p j) (pwr x j)) (mu (q l) (pwr x l))) = mu (mu (p j) (pwr x j)) (ev b q x) := by
      intro j hj
      rw [← mu_S]
      by_cases h : a + 1 ≤ j
      · rw [hp j h, zero_mu, zero_mu, zero_mu]
      · have : S (a + b - j + 1) (fun l => mu (q l) (pwr x l)) = ev b q x := ev_more hq (by omega) x
        rw [this]
    rw [S_congr _ _ _ e2, ← S_mu]
    congr 1
    exact ev_more hp (by omega) x

-- THE BYTES OF THE PROGRAM AS ELEMENTS
def toE (a : Int) : El := BitVec.ofInt 8 a
theorem toE_nat (n : Nat) (h : n < 256) : (toE (n : Int)).toNat = n := ofInt_u8 n h
theorem toE_toNat (a : Int) (h0 : 0 ≤ a) (h1 : a < 256) : (((toE a).toNat : Nat) : Int) = a := by
  obtain ⟨n, rfl⟩ := Int.eq_ofNat_of_zero_le h0
  rw [toE_nat n (by omega)]
theorem toE_inj {a b : Int} (ha0 : 0 ≤ a) (ha1 : a < 256) (hb0 : 0 ≤ b) (hb1 : b < 256) (h : toE a = toE b) : a = b := by
  rw [← toE_toNat a ha0 ha1, ← toE_toNat b hb0 hb1, h]
theorem toE_zero : toE 0 = 0 := rfl
theorem toE_one : toE 1 = 1 := rfl
theorem toE_xor (a b : Int) (ha0 : 0 ≤ a) (ha1 : a < 256) (hb0 : 0 ≤ b) (hb1 : b < 256) : toE (bits .xor .u8 a b) = toE a ^^^ toE b := by
  obtain ⟨n, rfl⟩ := Int.eq_ofNat_of_zero_le ha0
  obtain ⟨m, rfl⟩ := Int.eq_ofNat_of_zero_le hb0
  rw [u8_xor_nat n m (by omega) (by omega)]
  refine el_ext ?_
  have hx : n ^^^ m < 2 ^ 8 := Nat.xor_lt_two_pow (by omega) (by omega)
  rw [toE_nat _ (by omega), BitVec.toNat_xor, toE_nat _ (by omega), toE_nat _ (by omega)]
theorem toE_gI (a b : Int) (ha0 : 0 ≤ a) (ha1 : a < 256) (hb0 : 0 ≤ b) (hb1 : b < 256) : toE (gI a b) = mu (toE a) (toE b) := by
  obtain ⟨n, rfl⟩ := Int.eq_ofNat_of_zero_le ha0
  obtain ⟨m, rfl⟩ := Int.eq_ofNat_of_zero_le hb0
  refine el_ext ?_
  rw [mu_toNat, toE_nat n (by omega), toE_nat m (by omega)]
  unfold gI
  simp only [Int.toNat_natCast]
  rw [toE_nat _ (Gf.gm_lt _ _)]
theorem toE_pI (a : Int) (ha0 : 0 ≤ a) (ha1 : a < 256) (n : Nat) : toE (pI a n) = pwr (toE a) n := by
  induction n with
  | zero => rfl
  | succ n ih =>
    have h := Gf.pI_bd a n
    rw [show ((n + 1 : Nat) : Int) = (n : Int) + 1 from by omega, Gf.pI_step a n (by omega), toE_gI _ _ h.1 h.2 ha0 ha1, ih]; rfl
theorem toE_eq_zero (a : Int) (h0 : 0 ≤ a) (h1 : a < 256) : toE a = 0 ↔ a = 0 := by
  constructor
  · intro h; exact toE_inj h0 h1 (by decide) (by decide) (by rw [h]; rfl)
  · intro h; subst h; rfl
/-- a list's coefficients -/
def cf (l : List Int) (i : Nat) : El := toE (l[i]?.getD 0)
theorem cf_low (l : List Int) : Low l.length (cf l) := fun i hi => by
  unfold cf; rw [List.getElem?_eq_none hi]; rfl

-- ROOTS
def one : Nat → El := fun i => if i = 0 then 1 else 0
def lin (r : El) : Nat → El := fun i => if i = 0 then r else if i = 1 then 1 else 0
def rts : List El → Nat → El
  | [] => one
  | r :: rs => cv (rts rs) (lin r)
theorem lin_low (r : El) : Low 2 (lin r) := fun i hi => by unfold lin; rw [if_neg (by omega), if_neg (by omega)]
theorem rts_low (l : List El) : Low (l.length + 1) (rts l) := by
  induction l with
  | nil => intro i hi; show one i = 0; unfold one; exact if_neg (by simp at hi; omega)
  | cons r rs ih =>
    have h := cv_low ih (lin_low r)
    intro i hi
    exact h i (by simp only [List.length_cons] at hi; omega)
theorem rts_top (l : List El) : rts l l.length = 1 := by
  induction l with
  | nil => rfl
  | cons r rs ih =>
    show cv (rts rs) (lin r) (rs.length + 1) = 1
    rw [cv_top (rts_low rs) (lin_low r), ih, one_mu]; rfl
theorem ev_lin (r x : El) : ev 2 (lin r) x = r ^^^ x := by
  show (0 ^^^ mu r 1) ^^^ mu 1 (mu 1 x) = _
  rw [z0, mu_one, one_mu, one_mu]
theorem ev_rts (l : List El) (x : El) : ev (l.length + 1) (rts l) x = 0 ↔ x ∈ l := by
  induction l with
  | nil =>
    have : ev 1 (rts []) x = 1 := by show 0 ^^^ mu 1 1 = 1; rw [z0, mu_one]
    show ev 1 (rts []) x = 0 ↔ _
    rw [this]; simp
  | cons r rs ih =>
    have h := ev_cv (rts_low rs) (lin_low r) x
    have hl : ev ((r :: rs).length + 1) (rts (r :: rs)) x = mu (ev (rs.length + 1) (rts rs) x) (r ^^^ x) := by
      rw [← ev_lin r x, ← h]
      show ev (rs.length + 1 + 1) (cv (rts rs) (lin r)) x = _
      exact (ev_more (cv_low (rts_low rs) (lin_low r)) (by omega) x).trans (ev_more (cv_low (rts_low rs) (lin_low r)) (by omega) x).symm
    rw [hl]
    constructor
    · intro h0
      by_cases h1 : ev (rs.length + 1) (rts rs) x = 0
      · exact List.mem_cons_of_mem _ (ih.1 h1)
      · by_cases h2 : r ^^^ x = 0
        · rw [xor_eq_zero h2]; exact List.mem_cons_self
        · exact absurd h0 (mu_ne _ _ h1 h2)
    · intro h0
      rcases List.mem_cons.1 h0 with h0 | h0
      · rw [h0, xor_self', mu_zero]
      · rw [ih.2 h0, zero_mu]

end Go.Proofs.YtdjknaafefnlcaaDoor.Po

/-
  Plain mathematics of layer 5: words of 39 symbols over the field; a word that is 0 at the four roots and has at most four symbols other than 0 is 0; whose place four syndromes tell.
-/
namespace Go.Proofs.YtdjknaafefnlcaaDoor.Rm
open Po

/-- the i-th power of x -/
def al (i : Nat) : El := pwr 2 i
theorem al_toNat (i : Nat) : (al i).toNat = Gf.ex i := by
  induction i with
  | zero => rfl
  | succ i ih =>
    show (mu (al i) 2).toNat = Gf.ex (i + 1)
    rw [mu_toNat, ih, show (2 : El).toNat = Gf.ex 1 from rfl, Gf.gm_ex]
theorem al_inj {i j : Nat} (hi : i < 255) (hj : j < 255) (h : al i = al j) : i = j :=
  Gf.ex_inj i j hi hj (by rw [← al_toNat, ← al_toNat, h])
theorem al_ne (i : Nat) : al i ≠ 0 := fun h => Gf.ex_pos i (by rw [← al_toNat, h]; rfl)
theorem pwr_mul (x : El) (n m : Nat) : pwr (pwr x n) m = pwr x (n * m) := by
  induction m with
  | zero => rfl
  | succ m ih => show mu (pwr (pwr x n) m) (pwr x n) = pwr x (n * m + n); rw [ih, pwr_add]
theorem al_swap (i j : Nat) : pwr (al j) i = pwr (al i) j := by unfold al; rw [pwr_mul, pwr_mul, Nat.mul_comm]

/-! ### sums of powers -/
def ps : List (El × El) → Nat → El
  | [], _ => 0
  | p :: l, j => mu p.1 (pwr p.2 j) ^^^ ps l j
/-- each term times its place less x0 -/
def less (x0 : El) (l : List (El × El)) : List (El × El) := l.map fun p => (mu p.1 (p.2 ^^^ x0), p.2)
theorem ps_less (x0 : El) (l : List (El × El)) (j : Nat) : ps (less x0 l) j = ps l (j + 1) ^^^ mu x0 (ps l j) := by
  induction l with
  | nil => show (0 : El) = 0 ^^^ mu x0 0; rw [mu_zero]; rfl
  | cons p l ih =>
    show mu (mu p.1 (p.2 ^^^ x0)) (pwr p.2 j) ^^^ ps (less x0 l) j = (mu p.1 (mu (pwr p.2 j) p.2) ^^^ ps l (j + 1)) ^^^ mu x0 (mu p.1 (pwr p.2 j) ^^^ ps l j)
    rw [ih, mu_xor x0, xor4]
    congr 1
    rw [mu_assoc, xor_mu, mu_xor, mu_comm p.2 (pwr p.2 j)]
    congr 1
    rw [← mu_assoc, ← mu_assoc, mu_comm p.1 x0]
theorem vand : ∀ (n : Nat) (l : List (El × El)), l.length = n → (l.map Prod.snd).Nodup → (∀ j, j < n → ps l j = 0) → ∀ p ∈ l, p.1 = 0
  | 0, l, hl, _, _, p, hp => by
    have : l = [] := List.eq_nil_of_length_eq_zero hl
    rw [this] at hp; cases hp
  | n + 1, [], hl, _, _, p, hp => by cases hp
  | n + 1, (e0, x0) :: t, hl, hd, h, p, hp => by
    have hd' := List.nodup_cons.1 (show (x0 :: t.map Prod.snd).Nodup from hd)
    have ht : t.length = n := by simpa using hl
    have h' : ∀ j, j < n → ps (less x0 t) j = 0 := by
      intro j hj
      have e1 := h j (by omega)
      have e2 := h (j + 1) (by omega)
      have e3 := ps_less x0 ((e0, x0) :: t) j
      rw [e1, e2, mu_zero] at e3
      have e4 : ps (less x0 ((e0, x0) :: t)) j = ps (less x0 t) j := by
        show mu (mu e0 (x0 ^^^ x0)) (pwr x0 j) ^^^ ps (less x0 t) j = _
        rw [xor_self', mu_zero, zero_mu, z0]
      rw [← e4, e3]; rfl
    have hs : (less x0 t).map Prod.snd = t.map Prod.snd := by unfold less; rw [List.map_map]; rfl
    have all := vand n (less x0 t) (by unfold less; rw [List.length_map]; exact ht) (by rw [hs]; exact hd'.2) h'
    have tz : ∀ q ∈ t, q.1 = 0 := by
      intro q hq
      have := all (mu q.1 (q.2 ^^^ x0), q.2) (List.mem_map.2 ⟨q, hq, rfl⟩)
      by_cases hq0 : q.1 = 0
      · exact hq0
      · exfalso
        have hne : q.2 ^^^ x0 ≠ 0 := fun e => hd'.1 (by rw [← xor_eq_zero e]; exact List.mem_map.2 ⟨q, hq, rfl⟩)
        exact mu_ne _ _ hq0 hne this
    have pz : ∀ (t : List (El × El)), (∀ q ∈ t, q.1 = 0) → ps t 0 = 0 := by
      intro t
      induction t with
      | nil => intro _; rfl
      | cons q t ih =>
        intro hq
        show mu q.1 (pwr q.2 0) ^^^ ps t 0 = 0
        rw [hq q (by simp), zero_mu, z0, ih (fun r hr => hq r (by simp [hr]))]
    rcases List.mem_cons.1 hp with rfl | hp
    · have e1 := h 0 (by omega)
      have e2 : mu e0 (pwr x0 0) ^^^ ps t 0 = 0 := e1
      rw [pz t tz, Po.x0, show pwr x0 0 = 1 from rfl, mu_one] at e2
      exact e2
    · exact tz p hp

/-! ### words -/
/-- the symbols of the first n that are not 0 -/
def supp : Nat → (Nat → El) → List Nat
  | 0, _ => []
  | n + 1, W => if W n = 0 then supp n W else supp n W ++ [n]
theorem supp_no (n : Nat) (W : Nat → El) (h : W n = 0) : supp (n + 1) W = supp n W := by unfold supp; rw [if_pos h]; cases n <;> rfl
theorem supp_yes (n : Nat) (W : Nat → El) (h : W n ≠ 0) : supp (n + 1) W = supp n W ++ [n] := by
  show (if W n = 0 then supp n W else supp n W ++ [n]) = _
  rw [if_neg h]
theorem mem_supp (n : Nat) (W : Nat → El) (i : Nat) : i ∈ supp n W ↔ i < n ∧ W i ≠ 0 := by
  induction n with
  | zero =>
    constructor
    · intro h
      cases h
    · intro h
      omega
  | succ n ih =>
    by_cases h : W n = 0
    · rw [supp_no n W h, ih]
      constructor
      · rintro ⟨h1, h2⟩; exact ⟨by omega, h2⟩
      · rintro ⟨h1, h2⟩
        by_cases e : i = n
        · rw [e] at h2; exact absurd h h2
        · exact ⟨by omega, h2⟩
    · rw [supp_yes n W h, List.mem_append, ih]
      constructor
      · rintro (⟨h1, h2⟩ | h1)
        · exact ⟨by omega, h2⟩
        · obtain rfl := List.mem_singleton.1 h1
          exact ⟨by omega, h⟩
      · rintro ⟨h1, h2⟩
        by_cases e : i = n
        · exact .inr (by rw [e]; exact List.mem_singleton.2 rfl)
        · exact .inl ⟨by omega, h2⟩
theorem supp_nodup (n : Nat) (W : Nat → El) : (supp n W).Nodup := by
  induction n with
  | zero => exact List.nodup_nil
  | succ n ih =>
    by_cases h : W n = 0
    · rw [supp_no n W h]; exact ih
    · rw [supp_yes n W h]
      refine List.nodup_append.2 ⟨ih, by simp, ?_⟩
      intro a ha b hb e
      have := (mem_supp n W a).1 ha
      have := List.mem_singleton.1 hb
      omega
theorem ps_append (a b : List (El × El)) (j : Nat) : ps (a ++ b) j = ps a j ^^^ ps b j := by
  induction a with
  | nil => exact (z0 _).symm
  | cons p a ih => show mu p.1 (pwr p.2 j) ^^^ ps (a ++ b) j = (mu p.1 (pwr p.2 j) ^^^ ps a j) ^^^ ps b j; rw [ih, BitVec.xor_assoc]
theorem ev_supp (W : Nat → El) (n j : Nat) : ev n W (al j) = ps ((supp n W).map fun i => (W i, al i)) j := by
  induction n with
  | zero => rfl
  | succ n ih =>
    show ev n W (al j) ^^^ mu (W n) (pwr (al j) n) = _
    rw [ih, al_swap]
    by_cases h : W n = 0
    · rw [supp_no n W h, h, zero_mu, Po.x0]
    · rw [supp_yes n W h, List.map_append, ps_append]
      congr 1
      exact (Po.x0 _).symm
/-- a word that is 0 at the four roots and has at most four symbols but 0 is 0 -/
theorem few (W : Nat → El) (h : ∀ j, j < 4 → ev 39 W (al j) = 0) (hs : (supp 39 W).length ≤ 4) : ∀ i, i < 39 → W i = 0 := by
  intro i hi
  by_cases h0 : W i = 0
  · exact h0
  · have hm : i ∈ supp 39 W := (mem_supp 39 W i).2 ⟨hi, h0⟩
    refine vand _ ((supp 39 W).map fun i => (W i, al i)) rfl ?_ ?_ (W i, al i) (List.mem_map.2 ⟨i, hm, rfl⟩)
    · rw [List.map_map]
      have hnd := supp_nodup 39 W
      refine (List.pairwise_map).2 ?_
      refine List.Pairwise.imp_of_mem ?_ hnd
      intro a b ha hb hab e
      have ha' := ((mem_supp 39 W a).1 ha).1
      have hb' := ((mem_supp 39 W b).1 hb).1
      exact hab (al_inj (by omega) (by omega) e)
    · intro j hj
      rw [← ev_supp]
      rw [List.length_map] at hj
      exact h j (by omega)
theorem nodup_le : ∀ (A L : List Nat), A.Nodup → (∀ i ∈ A, i ∈ L) → A.length ≤ L.length
  | [], L, _, _ => Nat.zero_le _
  | a :: A, L, hn, hs => by
    have hn' := List.nodup_cons.1 hn
    have ha := hs a (by simp)
    have := nodup_le A (L.erase a) hn'.2 (fun i hi => (List.mem_erase_of_ne (fun e => hn'.1 (by rw [← e]; exact hi))).2 (hs i (by simp [hi])))
    rw [List.length_erase_of_mem ha] at this
    have hpos : 0 < L.length := List.length_pos_of_mem ha
    simp only [List.length_cons]; omega
theorem supp_sub (W : Nat → El) (L : List Nat) (n : Nat) (h : ∀ i, i < n → W i ≠ 0 → i ∈ L) : (supp n W).length ≤ L.length := by
  refine nodup_le _ L (supp_nodup n W) ?_
  intro i hi
  have := (mem_supp n W i).1 hi
  exact h i this.1 this.2

/-- a word is a code word -/
def IsCode (W : Nat → El) : Prop := ∀ j, j < 4 → ev 39 W (al j) = 0
theorem IsCode.xor {W U : Nat → El} (h : IsCode W) (k : IsCode U) : IsCode (fun i => W i ^^^ U i) := fun j hj => by
  rw [ev_xor, h j hj, k j hj]; rfl
theorem IsCode.scale {W : Nat → El} (h : IsCode W) (a : El) : IsCode (fun i => mu (W i) a) := fun j hj => by
  rw [ev_scale, h j hj, zero_mu]
/-- unlike code words differ in five symbols at least -/
theorem apart {W U : Nat → El} (h : IsCode W) (k : IsCode U) (hs : (supp 39 fun i => W i ^^^ U i).length ≤ 4) : ∀ i, i < 39 → W i = U i :=
  fun i hi => xor_eq_zero (few _ (h.xor k) hs i hi)
/-- the checks are the only ones -/
theorem checks_only {W U : Nat → El} (h : IsCode W) (k : IsCode U) (he : ∀ i, 4 ≤ i → i < 39 → W i = U i) : ∀ i, i < 39 → W i = U i :=
  apart h k (Nat.le_trans (supp_sub _ [0, 1, 2, 3] 39 (fun i hi hne => by
    by_cases h4 : 4 ≤ i
    · exact absurd (by show W i ^^^ U i = 0; rw [he i h4 hi, xor_self']) hne
    · simp; omega)) (by simp))

/-! ### whose place -/
/-- one symbol at the place i, with the value a -/
def one' (i : Nat) (a : El) : Nat → El := fun k => if k = i then a else 0
theorem ev_one (i : Nat) (a : El) (j : Nat) (hi : i < 39) : ev 39 (one' i a) (al j) = mu a (pwr (al i) j) := by
  unfold ev
  rw [S_one 39 i _ hi (fun k _ hk => by unfold one'; rw [if_neg hk, zero_mu])]
  unfold one'; rw [if_pos rfl, al_swap]
/-- four syndromes are those of a symbol at the place i -/
abbrev At (s : Nat → El) (i : Nat) : Prop := s 0 ≠ 0 ∧ s 1 = mu (s 0) (al i) ∧ s 2 = mu (s 1) (al i) ∧ s 3 = mu (s 2) (al i)
theorem at_iff (s : Nat → El) (i : Nat) : At s i ↔ s 0 ≠ 0 ∧ ∀ j, j < 4 → s j = mu (s 0) (pwr (al i) j) := by
  constructor
  · rintro ⟨h0, h1, h2, h3⟩
    have p0 : pwr (al i) 0 = 1 := rfl
    have p1 : pwr (al i) 1 = al i := one_mu _
    have p2 : pwr (al i) 2 = mu (al i) (al i) := by show mu (pwr (al i) 1) (al i) = _; rw [p1]
    have p3 : pwr (al i) 3 = mu (mu (al i) (al i)) (al i) := by show mu (pwr (al i) 2) (al i) = _; rw [p2]
    refine ⟨h0, fun j hj => ?_⟩
    rcases (show j = 0 ∨ j = 1 ∨ j = 2 ∨ j = 3 by omega) with rfl | rfl | rfl | rfl
    · rw [p0, mu_one]
    · rw [p1]; exact h1
    · rw [p2, h2, h1, mu_assoc]
    · rw [p3, h3, h2, h1, mu_assoc, mu_assoc, mu_assoc]
  · rintro ⟨h0, h⟩
    have st : ∀ j, pwr (al i) (j + 1) = mu (pwr (al i) j) (al i) := fun j => rfl
    refine ⟨h0, ?_, ?_, ?_⟩
    · rw [h 1 (by omega), show pwr (al i) 1 = al i from one_mu _]
    · rw [h 2 (by omega), h 1 (by omega), st 1, mu_assoc]
    · rw [h 3 (by omega), h 2 (by omega), st 2, mu_assoc]
theorem at_only {s : Nat → El} {i k : Nat} (hi : i < 39) (hk : k < 39) (h : At s i) (g : At s k) : i = k := by
  have e : mu (s 0) (al i) = mu (s 0) (al k) := by rw [← h.2.1, ← g.2.1]
  have e2 : mu (s 0) (al i ^^^ al k) = 0 := by rw [mu_xor, e, xor_self']
  by_cases hne : al i ^^^ al k = 0
  · exact al_inj (by omega) (by omega) (xor_eq_zero hne)
  · exact absurd e2 (mu_ne _ _ h.1 hne)
/-- the syndromes of a word -/
def sy (W : Nat → El) (j : Nat) : El := ev 39 W (al j)
theorem sy_one (i : Nat) (a : El) (hi : i < 39) (ha : a ≠ 0) : At (sy (one' i a)) i := (at_iff _ _).2 (by
  have h0 : sy (one' i a) 0 = a := by unfold sy; rw [ev_one i a 0 hi]; exact mu_one a
  refine ⟨by rw [h0]; exact ha, fun j _ => ?_⟩
  rw [h0]; exact ev_one i a j hi)
theorem sy_one0 (i : Nat) (a : El) (hi : i < 39) : sy (one' i a) 0 = a := by unfold sy; rw [ev_one i a 0 hi]; exact mu_one a
/-- with two or three symbols but 0 a word is no code word, nor one but for a symbol -/
theorem two_three (E : Nat → El) (h2 : 2 ≤ (supp 39 E).length) (h3 : (supp 39 E).length ≤ 3) : ¬ IsCode E ∧ ∀ i, i < 39 → ¬ At (sy E) i := by
  constructor
  · intro h
    have hz := few E h (by omega)
    have : (supp 39 E).length ≤ 0 := supp_sub E [] 39 (fun i hi hne => absurd (hz i hi) hne)
    omega
  · intro i hi hat
    obtain ⟨_, hj⟩ := (at_iff _ _).1 hat
    have hc : ∀ j, j < 4 → ev 39 (fun k => E k ^^^ one' i (sy E 0) k) (al j) = 0 := by
      intro j h
      rw [ev_xor, ev_one _ _ _ hi]
      have := hj j h
      unfold sy at this ⊢
      rw [← this, xor_self']
    have hz := few _ hc (Nat.le_trans (supp_sub _ (i :: supp 39 E) 39 (fun k hk hne => by
      by_cases e : k = i
      · rw [e]; exact List.mem_cons_self
      · refine List.mem_cons.2 (.inr ((mem_supp 39 E k).2 ⟨hk, ?_⟩))
        unfold one' at hne
        rw [if_neg e, Po.x0] at hne
        exact hne)) (by simp only [List.length_cons]; omega))
    have hle : (supp 39 E).length ≤ 1 := by
      refine Nat.le_trans (supp_sub E [i] 39 (fun k hk hne => ?_)) (by simp)
      by_cases e : k = i
      · simp [e]
      · have := hz k hk
        unfold one' at this
        rw [if_neg e, Po.x0] at this
        exact absurd this hne
    omega
end Go.Proofs.YtdjknaafefnlcaaDoor.Rm

/-
  Arrays of bytes by value; the document's word, value, values.
-/
namespace Go.Proofs.YtdjknaafefnlcaaDoor
open Go.RowKit
open Gf (gI)
open Po (El mu pwr ev S)
open Rm (al sy)

/-- an element as the program's byte -/
def oe (e : El) : Int := ((e.toNat : Nat) : Int)
theorem oe_bd (e : El) : 0 ≤ oe e ∧ oe e < 256 := by
  have := e.isLt; unfold oe; omega
theorem oe_inj {a b : El} (h : oe a = oe b) : a = b := Po.el_ext (by unfold oe at h; omega)
theorem oe_zero : oe 0 = 0 := rfl
theorem oe_mu (a b : El) : gI (oe a) (oe b) = oe (mu a b) := by unfold oe gI; rw [Po.mu_toNat]; simp
theorem oe_xor (a b : El) : bits .xor .u8 (oe a) (oe b) = oe (a ^^^ b) := by
  unfold oe; rw [u8_xor_nat _ _ a.isLt b.isLt, BitVec.toNat_xor]
theorem oe_eq (a b : El) : (oe a == oe b) = decide (a = b) := by
  by_cases h : a = b
  · rw [h]; simp
  · have : oe a ≠ oe b := fun e => h (oe_inj e)
    simp [h, this]
theorem oe_eq0 (a : El) : (oe a == 0) = decide (a = 0) := oe_eq a 0
/-! ### arrays -/
/-- n bytes -/
def arr (n : Nat) (F : Nat → El) : List Value := (List.range n).map fun i => Value.int .u8 (oe (F i))
theorem arr_len (n : Nat) (F : Nat → El) : (arr n F).length = n := by simp [arr]
theorem arr_at (n : Nat) (F : Nat → El) (i : Nat) (h : i < n) : (arr n F)[i]? = some (.int .u8 (oe (F i))) := by
  simp [arr, h]
theorem arr_congr (n : Nat) (F G : Nat → El) (h : ∀ i, i < n → F i = G i) : arr n F = arr n G := by
  unfold arr
  refine List.map_congr_left fun i hi => ?_
  rw [h i (List.mem_range.1 hi)]
theorem arr_inj (n : Nat) (F G : Nat → El) (h : arr n F = arr n G) : ∀ i, i < n → F i = G i := by
  intro i hi
  have e := arr_at n F i hi
  rw [h, arr_at n G i hi] at e
  simp only [Option.some.injEq, Value.int.injEq, true_and] at e
  exact (oe_inj e).symm
theorem arr_one (n : Nat) (F : Nat → El) : (arr n F).toArray.all (·.oneCell') = true := by
  refine all_oneCell_toArray fun v hv => ?_
  obtain ⟨i, _, rfl⟩ := List.mem_map.1 hv
  rfl
/-- block b holds n bytes from its head on -/
def Arr (W : World) (b n : Nat) (F : Nat → El) : Prop := ∀ i : Nat, i < n → W.cell? ⟨b, i, none⟩ = some (.int .u8 (oe (F i)))
theorem Arr.of {W W' : World} {b n : Nat} {F : Nat → El} (h : Arr W b n F) (k : W'.heap[b]? = W.heap[b]?) : Arr W' b n F := fun i hi => (World.cell?_of_block (w := W) (a := ⟨b, i, none⟩) k).trans (h i hi)
theorem Arr.below {C : Nat} {W W' : World} {b n : Nat} {F : Nat → El} (h : Arr W b n F) (k : Below C W W') (hb : b < C) : Arr W' b n F := h.of (k.block b hb)
theorem Arr.range {W : World} {b n : Nat} {F : Nat → El} (h : Arr W b n F) : W.rangeAt b 0 (arr n F) := fun j v hv => by
  have hj : j < n := by have := (List.getElem?_eq_some_iff.1 hv).1; rw [arr_len] at this; exact this
  rw [arr_at n F j hj] at hv
  cases hv
  rw [Nat.zero_add]; exact h j hj
theorem Arr.ofRange {W : World} {b n : Nat} {F : Nat → El} (h : W.rangeAt b 0 (arr n F)) : Arr W b n F := fun i hi => by
  have := h i _ (arr_at n F i hi)
  rw [Nat.zero_add] at this; exact this
theorem Arr.new (W : World) (n : Nat) (F : Nat → El) (t : TypeId) : Arr (W.alloc (.cells (arr n F).toArray t)) W.heap.size n F := fun i hi => by
  rw [World.cell?_alloc_new]
  simpa using arr_at n F i hi
theorem Arr.congr {W : World} {b n : Nat} {F G : Nat → El} (h : Arr W b n F) (k : ∀ i, i < n → F i = G i) : Arr W b n G := fun i hi => by rw [← k i hi]; exact h i hi
theorem Arr.alloc {W : World} {b n : Nat} {F : Nat → El} (h : Arr W b n F) (hb : b < W.heap.size) (o : Obj) : Arr (W.alloc o) b n F := h.of (Below.heap_alloc W o b hb)
/-- and they may be written -/
structure ArrW (W : World) (b n : Nat) (F : Nat → El) : Prop where
  at_ : Arr W b n F
  free : ∀ i : Nat, i < n → W.frozen? ⟨b, i, none⟩ = false
theorem ArrW.of {W W' : World} {b n : Nat} {F : Nat → El} (h : ArrW W b n F) (k : W'.heap[b]? = W.heap[b]?) : ArrW W' b n F :=
  ⟨h.at_.of k, fun i hi => (World.frozen?_of_block (w := W) (a := ⟨b, i, none⟩) k).trans (h.free i hi)⟩
theorem ArrW.set {W : World} {b n : Nat} {F : Nat → El} (h : ArrW W b n F) (i : Nat) (hi : i < n) (e : El) : ArrW (W.setCell ⟨b, i, none⟩ (.int .u8 (oe e))) b n (fun k => if k = i then e else F k) := by
  constructor
  · intro k hk
    show _ = some (Value.int .u8 (oe (if k = i then e else F k)))
    by_cases hki : k = i
    · rw [if_pos hki, hki]
      exact World.cell?_setCell_same' _ _ _ (by rw [h.at_ i hi]; rfl)
    · rw [if_neg hki]
      have hne : (⟨b, i, none⟩ : Addr) ≠ ⟨b, k, none⟩ := fun e => hki (by simp only [Addr.mk.injEq] at e; exact e.2.1.symm)
      rw [World.cell?_setCell_other _ _ _ _ hne]; exact h.at_ k hk
  · intro k hk
    rw [World.frozen?_setCell]; exact h.free k hk
theorem ArrW.there {W : World} {b n : Nat} {F : Nat → El} (h : ArrW W b n F) : W.there b 0 n := fun j hj => by
  rw [Nat.zero_add, h.at_ j hj]; exact ⟨rfl, h.free j hj⟩
end Go.Proofs.YtdjknaafefnlcaaDoor

/-
  The document's word, value and values of layer 5.
-/
namespace Go.Proofs.YtdjknaafefnlcaaDoor
open Go.RowKit
open Gf (gI)
open Po (El mu pwr ev S)
open Rm (al sy)

theorem info39 : (Tryd.prog.info? 123).map (·.size) = some 39 := by kernel_rfl
/-- the 39 symbols -/
def wd (F G : Nat → El) (i : Nat) : El := if i < 36 then F i else G (i - 36)
theorem zero39 (w : World) : (zeroValue 123).run Tryd.prog w = .ok (.agg (arr 39 fun _ => 0).toArray) w := by kernel_rfl
theorem below_put5 {B b : Nat} (hb : B ≤ b) : ∀ (vs : List Value) (o : Nat) {a w : World}, Below B a w → Below B a (w.setCells b o vs)
  | [], _, _, _, h => h
  | v :: vs, o, _, _, h => below_put5 hb vs (o + 1) (h.setCell (p := ⟨b, o, none⟩) hb v)
theorem ArrW.new (W : World) (n : Nat) (F : Nat → El) (t : TypeId) : ArrW (W.alloc (.cells (arr n F).toArray t)) W.heap.size n F :=
  ⟨Arr.new W n F t, fun i _ => by simp⟩
theorem ArrW.alloc {W : World} {b n : Nat} {F : Nat → El} (h : ArrW W b n F) (hb : b < W.heap.size) (o : Obj) : ArrW (W.alloc o) b n F := h.of (Below.heap_alloc W o b hb)
/-- between two rounds of Word: what is laid of the word is X -/
structure WdI (B C D E : Nat) (F G X : Nat → El) (w wr : World) : Prop where
  a : Arr wr B 36 F
  b : Arr wr C 3 G
  r : ArrW wr D 39 (fun _ => 0)
  o : ArrW wr E 39 X
  below : Below B w wr
theorem WdI.set {B C D E : Nat} {F G X : Nat → El} {w wr : World} (h : WdI B C D E F G X w wr) (hB : B < E) (hC : C < E) (hD : D < E) (i : Nat) (hi : i < 39) (e : El) : WdI B C D E F G (fun k => if k = i then e else X k) w (wr.setCell ⟨E, i, none⟩ (.int .u8 (oe e))) :=
  ⟨h.a.of (Below.heap_setCell wr ⟨E, i, none⟩ _ B (by simp; omega)), h.b.of (Below.heap_setCell wr ⟨E, i, none⟩ _ C (by simp; omega)), h.r.of (Below.heap_setCell wr ⟨E, i, none⟩ _ D (by simp; omega)), h.o.set i hi e, h.below.setCell (p := ⟨E, i, none⟩) (by simp; omega) _⟩
theorem WdI.congr {B C D E : Nat} {F G X Y : Nat → El} {w wr : World} (h : WdI B C D E F G X w wr) (k : ∀ i, i < 39 → X i = Y i) : WdI B C D E F G Y w wr :=
  ⟨h.a, h.b, h.r, ⟨h.o.at_.congr k, h.o.free⟩, h.below⟩

end Go.Proofs.YtdjknaafefnlcaaDoor

/-
  The document's values at the four roots.
-/
namespace Go.Proofs.YtdjknaafefnlcaaDoor
open Go.RowKit
open Gf (gI)
open Po (El mu pwr ev S)
open Rm (al sy)

theorem al_nums : al 0 = 1 ∧ al 1 = 2 ∧ al 2 = 4 ∧ al 3 = 8 := by
  refine ⟨?_, ?_, ?_, ?_⟩ <;> refine Po.el_ext ?_ <;> rw [Rm.al_toNat] <;> decide +kernel
theorem arr4 (F : Nat → El) : arr 4 F = [.int .u8 (oe (F 0)), .int .u8 (oe (F 1)), .int .u8 (oe (F 2)), .int .u8 (oe (F 3))] := rfl
/-- while Values works: the word lies in B, the result's block C may be written -/
structure VsS (B C : Nat) (L : List Value) (w W : World) : Prop where
  at_ : W.rangeAt B 0 L
  free : W.there C 0 4
  lt : B < W.heap.size ∧ C < W.heap.size
  below : Below B w W
theorem range_of {W W' : World} {b o : Nat} {cs : List Value} (h : W.rangeAt b o cs) (k : W'.heap[b]? = W.heap[b]?) : W'.rangeAt b o cs := fun j v hv => (World.cell?_of_block (w := W) (a := ⟨b, o + j, none⟩) k).trans (h j v hv)
theorem there_of {W W' : World} {b o n : Nat} (h : W.there b o n) (k : W'.heap[b]? = W.heap[b]?) : W'.there b o n := fun j hj => by
  have := h j hj
  rw [World.cell?_of_block (w := W) (a := ⟨b, o + j, none⟩) k, World.frozen?_of_block (w := W) (a := ⟨b, o + j, none⟩) k]; exact this
theorem VsS.next {B C : Nat} {L : List Value} {w W W' : World} (h : VsS B C L w W) (k : Below W.heap.size W W') : VsS B C L w W' :=
  ⟨range_of h.at_ (k.block B h.lt.1), there_of h.free (k.block C h.lt.2), ⟨Nat.lt_of_lt_of_le h.lt.1 k.size, Nat.lt_of_lt_of_le h.lt.2 k.size⟩, h.below.trans (k.mono (Nat.le_of_lt h.lt.1))⟩
theorem VsS.drew {B C : Nat} {L : List Value} {w W : World} (h : VsS B C L w W) : VsS B C L w W.drew := h.next (below_stay (Below.refl _ W) (Stay.drewN _ W 1) (Nat.le_refl _))
theorem VsS.put {B C : Nat} {L : List Value} {w W : World} (h : VsS B C L w W) (hBC : B < C) (vs : List Value) : VsS B C L w (W.setCells C 0 vs) :=
  ⟨World.rangeAt_setCells_apart h.at_ C 0 vs (.inl (by omega)), World.there_setCells h.free C 0 vs, by
    have := (below_put5 (B := C) (b := C) (Nat.le_refl _) vs 0 (Below.refl C W)).size
    exact ⟨Nat.lt_of_lt_of_le h.lt.1 this, Nat.lt_of_lt_of_le h.lt.2 this⟩, below_put5 (Nat.le_of_lt hBC) vs 0 h.below⟩
theorem VsS.all {B C : Nat} {L : List Value} {w W : World} (h : VsS B C L w W) : W.rangeAt B 0 L ∧ W.there C 0 4 ∧ VsS B C L w W := ⟨h.at_, h.free, h⟩
theorem zero4 (w : World) : (zeroValue 73).run Tryd.prog w = .ok (.agg (arr 4 fun _ => 0).toArray) w := by kernel_rfl
theorem info4 : (Tryd.prog.info? 73).map (·.size) = some 4 := by kernel_rfl
end Go.Proofs.YtdjknaafefnlcaaDoor

/-
  Whose place four syndromes tell: the verdict as a function, and the document's Locate.
-/
namespace Go.Proofs.YtdjknaafefnlcaaDoor
open Go.RowKit
open Gf (gI)
open Po (El mu pwr ev S)
open Rm (al sy At)

/-- the first place from i on, of n, whose syndromes they are; -1 if none -/
def plc (s : Nat → El) : Nat → Nat → Int
  | 0, _ => -1
  | n + 1, i => if At s i then i else plc s n (i + 1)
theorem plc_none (s : Nat → El) (n i : Nat) (h : ∀ j, i ≤ j → j < i + n → ¬ At s j) : plc s n i = -1 := by
  induction n generalizing i with
  | zero => rfl
  | succ n ih =>
    unfold plc
    rw [if_neg (h i (by omega) (by omega))]
    exact ih (i + 1) fun j h1 h2 => h j (by omega) (by omega)
theorem plc_some (s : Nat → El) (n i j : Nat) (h1 : i ≤ j) (h2 : j < i + n) (hj : At s j) (hb : ∀ l, i ≤ l → l < j → ¬ At s l) : plc s n i = j := by
  induction n generalizing i with
  | zero => omega
  | succ n ih =>
    unfold plc
    by_cases e : i = j
    · subst e; rw [if_pos hj]
    · rw [if_neg (hb i (by omega) (by omega))]
      exact ih (i + 1) (by omega) (by omega) fun l a b => hb l (by omega) b
theorem plc_lt (s : Nat → El) : ∀ n i, -1 ≤ plc s n i ∧ plc s n i < (i + n : Nat)
  | 0, i => by unfold plc; omega
  | n + 1, i => by
    unfold plc
    have := plc_lt s n (i + 1)
    split <;> omega
/-- no syndrome but 0 -/
abbrev Nought (s : Nat → El) : Prop := s 0 = 0 ∧ s 1 = 0 ∧ s 2 = 0 ∧ s 3 = 0
/-- the verdict: kind, place, value -/
def vk (s : Nat → El) : Int := if Nought s then 0 else if plc s 39 0 = -1 then 3 else if 35 < plc s 39 0 then 2 else 1
def vp (s : Nat → El) : Int := if Nought s then -1 else plc s 39 0
def vv (s : Nat → El) : El := if Nought s then 0 else if plc s 39 0 = -1 then 0 else s 0
/-- the ways of a verdict -/
theorem vways (s : Nat → El) : (Nought s ∧ vk s = 0 ∧ vp s = -1 ∧ vv s = 0) ∨ (¬ Nought s ∧ (∀ j, j < 39 → ¬ At s j) ∧ vk s = 3 ∧ vp s = -1 ∧ vv s = 0) ∨
    (¬ Nought s ∧ ∃ i : Nat, i < 39 ∧ At s i ∧ (∀ l, l < i → ¬ At s l) ∧ vk s = (if i < 36 then 1 else 2) ∧ vp s = (i : Int) ∧ vv s = s 0) := by
  unfold vk vp vv
  by_cases h0 : Nought s
  · exact .inl ⟨h0, by rw [if_pos h0], by rw [if_pos h0], by rw [if_pos h0]⟩
  · by_cases h1 : ∃ i, i < 39 ∧ At s i
    · obtain ⟨i, hi, ha, hm⟩ : ∃ i, i < 39 ∧ At s i ∧ ∀ l, l < i → ¬ At s l := by
        obtain ⟨i, hi, ha⟩ := h1
        exact ⟨i, hi, ha, fun l hl hal => by have := Rm.at_only (by omega) hi hal ha; omega⟩
      have hp := plc_some s 39 0 i (by omega) (by omega) ha (fun l _ hl => hm l hl)
      refine .inr (.inr ⟨h0, i, hi, ha, hm, ?_, by rw [if_neg h0, hp], by rw [if_neg h0, hp, if_neg (by omega)]⟩)
      rw [if_neg h0, hp, if_neg (by omega)]
      by_cases h36 : i < 36
      · rw [if_neg (by omega), if_pos h36]
      · rw [if_pos (by omega), if_neg h36]
    · have hn : ∀ j, j < 39 → ¬ At s j := fun j hj ha => h1 ⟨j, hj, ha⟩
      have hp := plc_none s 39 0 (fun j _ hj => hn j (by omega))
      exact .inr (.inl ⟨h0, hn, by rw [if_neg h0, hp]; rfl, by rw [if_neg h0, hp], by rw [if_neg h0, hp]; rfl⟩)

/-- while Locate works -/
structure LcS (B C : Nat) (s : Nat → El) (w W : World) : Prop where
  a : Arr W B 4 s
  c0 : W.cell? ⟨C, 0, none⟩ = some (.int .i64 0) ∧ W.frozen? ⟨C, 0, none⟩ = false
  c1 : W.cell? ⟨C, 1, none⟩ = some (.int .i64 0) ∧ W.frozen? ⟨C, 1, none⟩ = false
  c2 : W.cell? ⟨C, 2, none⟩ = some (.int .u8 0) ∧ W.frozen? ⟨C, 2, none⟩ = false
  below : Below B w W

theorem oe_ne0 {a : El} (h : a ≠ 0) : (oe a == 0) = false := by
  rw [oe_eq0]; exact decide_eq_false h
theorem oe_ne {a b : El} (h : a ≠ b) : (oe a == oe b) = false := by
  rw [oe_eq]; exact decide_eq_false h
theorem three_below {V w : World} {B C : Nat} (h : Below B w V) (hBC : B < C) (a b c : Value) : Below B w (((V.setCell ⟨C, 0, none⟩ a).setCell ⟨C, 1, none⟩ b).setCell ⟨C, 2, none⟩ c) :=
  below_put5 (Nat.le_of_lt hBC) [a, b, c] 0 h

end Go.Proofs.YtdjknaafefnlcaaDoor

/-
  The document's values at the four roots: a region that draws its order, with four loads of a long array, four calls and a store, taken by hand.
-/
namespace Go.Proofs.YtdjknaafefnlcaaDoor
open Go.RowKit Go.Shelf
open Gf (gI)
open Po (El mu pwr ev S)
open Rm (al sy)

/-- a call of a Go function of two arguments by its contract, as one step of a region that draws its order -/
theorem step_call2 {P : Program} {ops : Array Oper} {o : Oper} {a : Act} {w : World} {K : Act → World → Prop} {Q : Exit → Act → World → Prop} {E : Prop} (hgd : o.guard = none) (f : FuncId) (s x : Operand) (ts : Array TypeId)
    (ho : o.op = .call { callee := .value (.func f), args := #[s, x], argTypes := ts }) (eg : ∀ args w, (callFunc f args).run P w = .ok (.enter f args) w) (vs vx v : Value) (hs : a.eval s = vs) (hx : a.eval x = vx)
    (h : Calls P f #[vs, vx] w fun e w' => e = .returned v ∧ K (a.put o.dst v) w') :
    if Region.wanted o (yielded ops a.tmps) = true then Oper.wp P o a w K Q else E := by
  have hw : Region.wanted o (yielded ops a.tmps) = true := by simp [Region.wanted, hgd]
  have hf : a.eval (.func f) = .func (.func f) #[] #[] := rfl
  rw [if_pos hw]
  unfold Oper.wp
  simp only [execOp, ho, resolve, hf, List.map_toArray, List.map_cons, List.map_nil, hs, hx]
  simp [invoke, eg, Oper.upon, go_sem]
  refine Calls.mono h ?_
  rintro e w' ⟨rfl, hk⟩
  exact hk

theorem step_plain {P : Program} {ops : Array Oper} {o : Oper} {a : Act} {w : World} {K : Act → World → Prop} {Q : Exit → Act → World → Prop} {E : Prop} (hgd : o.guard = none) (h : Oper.wp P o a w K Q) :
    if Region.wanted o (yielded ops a.tmps) = true then Oper.wp P o a w K Q else E := by
  have hw : Region.wanted o (yielded ops a.tmps) = true := by simp [Region.wanted, hgd]
  rw [if_pos hw]; exact h

end Go.Proofs.YtdjknaafefnlcaaDoor

/-
  The walks of the laws GfMuls and GfField, out of the contracts.
-/
namespace Go.Proofs.YtdjknaafefnlcaaDoor
open Go.RowKit
open Gf (eI lI gI dI pI)

theorem Grown.drewN {W w' : World} (h : Grown W w') (k : Nat) : Grown W (w'.drewN k) := h
theorem grown_new (w : World) (c : Array Value) (t : TypeId) : Grown w (w.alloc (.cells c t)) := (Grown.refl w).alloc _ _






end Go.Proofs.YtdjknaafefnlcaaDoor

/-
  The walks of Pow, and of the document's powers; the law GfLogs.
-/
namespace Go.Proofs.YtdjknaafefnlcaaDoor
open Go.RowKit
open Gf (eI lI gI dI pI)








end Go.Proofs.YtdjknaafefnlcaaDoor

/-
  Slices of bytes as the walks see them: an address, and the list of what lies there.
-/
namespace Go.Proofs.YtdjknaafefnlcaaDoor
open Go.RowKit

/-- what the walk is told of a slice of integers that came in (as the row's frame has it) -/
def IsRow (k : IntKind) (w : World) (a : Option Addr) (len cap : Nat) (zs : List Int) : Prop :=
  (a = none ∧ len = 0 ∧ cap = 0 ∧ zs = []) ∨
  ∃ x, a = some x ∧ len ≤ cap ∧ cap ≤ maxLen ∧ zs.length = cap ∧ (∀ i, i < zs.length → w.cell? (x.add i) = some (.int k (zs.getD i 0))) ∧ ∀ n ∈ zs, (Lit.int k n).wf = true

/-- a list of bytes lies at an address (an empty one anywhere) -/
def SlAt (w : World) (a : Option Addr) (l : List Int) : Prop :=
  (l = [] ∨ ∃ b off, a = some ⟨b, off, none⟩ ∧ b < w.heap.size ∧ ∀ i, i < l.length → w.cell? ⟨b, off + i, none⟩ = some (.int .u8 (l[i]?.getD 0)))
/-- each is a byte -/
def Byt (l : List Int) : Prop := ∀ i, i < l.length → 0 ≤ l[i]?.getD 0 ∧ l[i]?.getD 0 < 256
theorem SlAt.kept {w w' : World} {a : Option Addr} {l : List Int} (h : SlAt w a l) (hs : w.heap.size ≤ w'.heap.size) (hc : ∀ b o, b < w.heap.size → w'.cell? ⟨b, o, none⟩ = w.cell? ⟨b, o, none⟩) : SlAt w' a l := by
  rcases h with h | ⟨b, off, ha, hb, hl⟩
  · exact .inl h
  · exact .inr ⟨b, off, ha, by omega, fun i hi => (hc b _ hb).trans (hl i hi)⟩
theorem SlAt.drewN {w : World} {a : Option Addr} {l : List Int} (h : SlAt w a l) (k : Nat) : SlAt (w.drewN k) a l := h.kept (Nat.le_refl _) (fun _ _ _ => rfl)
theorem SlAt.alloc {w : World} {a : Option Addr} {l : List Int} (h : SlAt w a l) (o : Obj) : SlAt (w.alloc o) a l :=
  h.kept (by simp) (fun b o' hb => World.cell?_alloc_past _ _ _ hb)
theorem SlAt.below {w w' : World} {a : Option Addr} {l : List Int} (h : SlAt w a l) (hb : Below w.heap.size w w') : SlAt w' a l :=
  h.kept hb.size (fun b o hlt => hb.cell (p := ⟨b, o, none⟩) hlt)
theorem cell_lt {w : World} {a : Addr} {v : Value} (h : w.cell? a = some v) : a.block < w.heap.size := by
  by_cases hb : a.block < w.heap.size
  · exact hb
  · have : w.heap[a.block]? = none := Array.getElem?_eq_none (by omega)
    simp [World.cell?, this] at h
theorem IsRow.slAt {w : World} {a : Option Addr} {len cap : Nat} {zs : List Int} (h : IsRow .u8 w a len cap zs) :
    SlAt w a (zs.take len) ∧ Byt (zs.take len) ∧ (zs.take len).length = len ∧ len ≤ cap ∧ len ≤ maxLen := by
  rcases h with ⟨rfl, rfl, rfl, rfl⟩ | ⟨x, rfl, hl, hm, hz, hcell, hwz⟩
  · exact ⟨.inl rfl, fun i hi => by simp at hi, rfl, Nat.le_refl _, Nat.zero_le _⟩
  · have hlen : (zs.take len).length = len := by simp; omega
    refine ⟨?_, ?_, hlen, hl, by omega⟩
    · by_cases h0 : len = 0
      · subst h0; exact .inl rfl
      · right
        obtain ⟨b, off, spot⟩ := x
        have hc := hcell 0 (by omega)
        have hspot : spot = none := by simpa [Addr.add] using World.cell?_spot hc
        subst hspot
        refine ⟨b, off, rfl, by have := cell_lt hc; simpa [Addr.add] using this, fun i hi => ?_⟩
        rw [hlen] at hi
        have := hcell i (by omega)
        simp only [Addr.add, List.getD_eq_getElem?_getD] at this
        rw [List.getElem?_take_of_lt hi]
        by_cases h00 : i = 0
        · subst h00; simpa using this
        · rw [if_neg h00] at this; exact this
    · intro i hi
      rw [hlen] at hi
      rw [List.getElem?_take_of_lt hi]
      have := range_u8 hwz i
      omega

end Go.Proofs.YtdjknaafefnlcaaDoor

/-
  The walks of Dot, and of the document's sum of products.
-/
namespace Go.Proofs.YtdjknaafefnlcaaDoor
open Go.RowKit
open Gf (eI lI gI dI pI)

/-- the sum of the first k products -/
def dotN (la lb : List Int) : Nat → Int
  | 0 => 0
  | k + 1 => bits .xor .u8 (dotN la lb k) (gI (la[k]?.getD 0) (lb[k]?.getD 0))
theorem dotN_bd (la lb : List Int) (k : Nat) : 0 ≤ dotN la lb k ∧ dotN la lb k < 256 := by
  induction k with
  | zero => simp [dotN]
  | succ k ih =>
    have h := Gf.gI_bd (la[k]?.getD 0) (lb[k]?.getD 0)
    exact Gf.xor8_bd _ _ ih.1 ih.2 h.1 h.2
def dotI (la lb : List Int) : Int := dotN la lb (min la.length lb.length)



end Go.Proofs.YtdjknaafefnlcaaDoor

/-
  The walk of the law GfLinear: two lists are made, filled, and summed.
-/
namespace Go.Proofs.YtdjknaafefnlcaaDoor
open Go.RowKit Go.Deep
open Gf (eI lI gI dI pI)

theorem xor8_nat (P Q : Nat) (hP : P < 256) (hQ : Q < 256) : P ^^^ Q < 256 := by
  have : P ^^^ Q < 2 ^ 8 := Nat.xor_lt_two_pow (by simpa using hP) (by simpa using hQ)
  simpa using this
theorem xor8_swap (p q r t : Int) (hp : 0 ≤ p ∧ p < 256) (hq : 0 ≤ q ∧ q < 256) (hr : 0 ≤ r ∧ r < 256) (ht : 0 ≤ t ∧ t < 256) :
    bits .xor .u8 (bits .xor .u8 p q) (bits .xor .u8 r t) = bits .xor .u8 (bits .xor .u8 p r) (bits .xor .u8 q t) := by
  obtain ⟨P, rfl⟩ := Int.eq_ofNat_of_zero_le hp.1
  obtain ⟨Q, rfl⟩ := Int.eq_ofNat_of_zero_le hq.1
  obtain ⟨R, rfl⟩ := Int.eq_ofNat_of_zero_le hr.1
  obtain ⟨T, rfl⟩ := Int.eq_ofNat_of_zero_le ht.1
  have hP : P < 256 := by omega
  have hQ : Q < 256 := by omega
  have hR : R < 256 := by omega
  have hT : T < 256 := by omega
  rw [u8_xor_nat P Q hP hQ, u8_xor_nat R T hR hT, u8_xor_nat P R hP hR, u8_xor_nat Q T hQ hT, u8_xor_nat _ _ (xor8_nat P Q hP hQ) (xor8_nat R T hR hT), u8_xor_nat _ _ (xor8_nat P R hP hR) (xor8_nat Q T hQ hT), Gf.xor4]
def sumL (la lb : List Int) (N : Nat) : List Int := (List.range N).map fun j => bits .xor .u8 (la[j]?.getD 0) (lb[j]?.getD 0)
def timL (la : List Int) (x : Int) (N : Nat) : List Int := (List.range N).map fun j => gI (la[j]?.getD 0) x
theorem sumL_get (la lb : List Int) (N j : Nat) (h : j < N) : (sumL la lb N)[j]?.getD 0 = bits .xor .u8 (la[j]?.getD 0) (lb[j]?.getD 0) := by
  simp [sumL, h]
theorem timL_get (la : List Int) (x : Int) (N j : Nat) (h : j < N) : (timL la x N)[j]?.getD 0 = gI (la[j]?.getD 0) x := by
  simp [timL, h]
theorem dotN_sum (la lb lc : List Int) (N k : Nat) (hk : k ≤ N) (ha : ∀ j, j < N → 0 ≤ la[j]?.getD 0 ∧ la[j]?.getD 0 < 256) (hb : ∀ j, j < N → 0 ≤ lb[j]?.getD 0 ∧ lb[j]?.getD 0 < 256) (hc : ∀ j, j < N → 0 ≤ lc[j]?.getD 0 ∧ lc[j]?.getD 0 < 256) :
    dotN (sumL la lb N) lc k = bits .xor .u8 (dotN la lc k) (dotN lb lc k) := by
  induction k with
  | zero => simp only [dotN]; decide +kernel
  | succ k ih =>
    have h1 := ha k (by omega)
    have h2 := hb k (by omega)
    have h3 := hc k (by omega)
    have h4 := dotN_bd la lc k
    have h5 := dotN_bd lb lc k
    have h6 := Gf.gI_bd (la[k]?.getD 0) (lc[k]?.getD 0)
    have h7 := Gf.gI_bd (lb[k]?.getD 0) (lc[k]?.getD 0)
    simp only [dotN]
    rw [ih (by omega), sumL_get la lb N k (by omega), Gf.gI_comm _ (lc[k]?.getD 0), Gf.gI_xor _ _ _ h3.1 h3.2 h1.1 h1.2 h2.1 h2.2, Gf.gI_comm (lc[k]?.getD 0) (la[k]?.getD 0), Gf.gI_comm (lc[k]?.getD 0) (lb[k]?.getD 0)]
    exact xor8_swap _ _ _ _ h4 h5 h6 h7
theorem dotN_tim (la lc : List Int) (x : Int) (hx : 0 ≤ x ∧ x < 256) (N k : Nat) (hk : k ≤ N) (ha : ∀ j, j < N → 0 ≤ la[j]?.getD 0 ∧ la[j]?.getD 0 < 256) (hc : ∀ j, j < N → 0 ≤ lc[j]?.getD 0 ∧ lc[j]?.getD 0 < 256) :
    dotN (timL la x N) lc k = gI (dotN la lc k) x := by
  induction k with
  | zero => simp only [dotN]; rw [Gf.gI_zero_left]
  | succ k ih =>
    have h1 := ha k (by omega)
    have h3 := hc k (by omega)
    have h4 := dotN_bd la lc k
    have h6 := Gf.gI_bd (la[k]?.getD 0) (lc[k]?.getD 0)
    simp only [dotN]
    rw [ih (by omega), timL_get la x N k (by omega), Gf.gI_comm (bits .xor .u8 _ _) x, Gf.gI_xor _ _ _ hx.1 hx.2 h4.1 h4.2 h6.1 h6.2, Gf.gI_comm x (dotN la lc k)]
    congr 1
    rw [Gf.gI_assoc _ _ _ h1.1 h1.2 hx.1 hx.2 h3.1 h3.2, Gf.gI_comm x (lc[k]?.getD 0), ← Gf.gI_assoc _ _ _ h1.1 h1.2 h3.1 h3.2 hx.1 hx.2, Gf.gI_comm x]
theorem dotN_comm (la lb : List Int) (k : Nat) : dotN la lb k = dotN lb la k := by
  induction k with
  | zero => rfl
  | succ k ih => simp only [dotN]; rw [ih, Gf.gI_comm]
theorem dotN_take (la lb : List Int) (N k : Nat) (hk : k ≤ N) : dotN (la.take N) lb k = dotN la lb k := by
  induction k with
  | zero => rfl
  | succ k ih => simp only [dotN]; rw [ih (by omega), List.getElem?_take_of_lt (by omega)]


theorem SlAt.take {w : World} {a : Option Addr} {l : List Int} (h : SlAt w a l) (n : Nat) : SlAt w a (l.take n) := by
  rcases h with h | ⟨b, off, ha, hb, hl⟩
  · left; simp [h]
  · right
    refine ⟨b, off, ha, hb, fun i hi => ?_⟩
    have hi' : i < n ∧ i < l.length := by simp at hi; omega
    rw [List.getElem?_take_of_lt hi'.1]
    exact hl i hi'.2
theorem Byt.take {l : List Int} (h : Byt l) (n : Nat) : Byt (l.take n) := by
  intro i hi
  have hi' : i < n ∧ i < l.length := by simp at hi; omega
  rw [List.getElem?_take_of_lt hi'.1]
  exact h i hi'.2
theorem dotI_bd (la lb : List Int) : 0 ≤ dotI la lb ∧ dotI la lb < 256 := dotN_bd _ _ _
theorem info_u8 : (Tryd.prog.info? 5).map (fun i => (i.zero, i.size, i.bytes)) = some (some (.int .u8 0), 1, 1) := by kernel_rfl

theorem run_min4 {P : Program} (a b c N : Nat) (h : N = min (min (min a b) c) 200) (ts : Array TypeId) (t : TypeId) (w : World) :
    (Builtin.min_ ts t #[.int .i64 (a : Int), .int .i64 (b : Int), .int .i64 (c : Int), .int .i64 200]).run P w = .ok (.int .i64 (N : Int)) w := by
  have e : (if (200 : Int) < (if (c : Int) < (if (b : Int) < (a : Int) then (b : Int) else a) then (c : Int) else (if (b : Int) < (a : Int) then (b : Int) else a)) then (200 : Int) else (if (c : Int) < (if (b : Int) < (a : Int) then (b : Int) else a) then (c : Int) else (if (b : Int) < (a : Int) then (b : Int) else a))) = (N : Int) := by
    repeat' split
    all_goals omega
  rw [← e]
  simp [Builtin.min_, Builtin.min2]

theorem below_two (B : Nat) (w : World) (k : Nat) (o1 o2 : Obj) (h : B ≤ w.heap.size) : Below B w (((w.drewN k).alloc o1).alloc o2) := by
  have h0 : Below B w (w.drewN k) := ⟨rfl, rfl, rfl, Nat.le_refl _, fun _ _ => rfl⟩
  exact (h0.alloc h o1).alloc (by simp; omega) o2
theorem made_rows (w : World) (k n : Nat) (t : TypeId) (z : Value) (m : Nat) (hm : m = w.heap.size) :
    (((w.drewN k).alloc (.cells (madeCells #[z] n) t)).alloc (.cells (madeCells #[z] n) t)).rowIs m t n (fun _ => z) ∧
    (((w.drewN k).alloc (.cells (madeCells #[z] n) t)).alloc (.cells (madeCells #[z] n) t)).rowIs (m + 1) t n (fun _ => z) := by
  subst hm
  constructor
  · exact World.rowIs.alloc (World.rowIs_made (w.drewN k) z n t) _
  · have h := World.rowIs_made ((w.drewN k).alloc (.cells (madeCells #[z] n) t)) z n t
    have e : ((w.drewN k).alloc (.cells (madeCells #[z] n) t)).heap.size = w.heap.size + 1 := by simp
    rw [e] at h
    exact h
theorem below_drewN {B : Nat} {w w' : World} (h : Below B w w') (k : Nat) : Below B w (w'.drewN k) := ⟨h.os, h.tape, h.output, h.size, h.block⟩
theorem below_of_new {w wr : World} {o : Obj} (h : Below (w.heap.size + 1) (w.alloc o) wr) : Below w.heap.size w wr :=
  ((Below.refl _ w).alloc (Nat.le_refl _) o).trans (h.mono (by omega))
def fs (la lb : List Int) (k : Nat) : Nat → Value := fun j => .int .u8 (if j < k then bits .xor .u8 (la[j]?.getD 0) (lb[j]?.getD 0) else 0)
def ft (la : List Int) (x : Int) (k : Nat) : Nat → Value := fun j => .int .u8 (if j < k then gI (la[j]?.getD 0) x else 0)
theorem fs_step (la lb : List Int) (k N : Nat) (y z : Int) (Hy : Hid (y = la[k]?.getD 0)) (Hz : Hid (z = lb[k]?.getD 0)) (j : Nat) (_ : j < N) : (if j = k then Value.int .u8 (bits .xor .u8 y z) else fs la lb k j) = fs la lb (k + 1) j := by
  unfold fs
  by_cases e : j = k
  · subst e; rw [if_pos rfl, if_pos (by omega), ← Hy.out, ← Hz.out]
  · rw [if_neg e]
    by_cases h : j < k
    · rw [if_pos h, if_pos (by omega)]
    · rw [if_neg h, if_neg (by omega)]
theorem ft_step (la : List Int) (x : Int) (k N : Nat) (y : Int) (Hy : Hid (y = la[k]?.getD 0)) (j : Nat) (_ : j < N) : (if j = k then Value.int .u8 (gI y x) else ft la x k j) = ft la x (k + 1) j := by
  unfold ft
  by_cases e : j = k
  · subst e; rw [if_pos rfl, if_pos (by omega), ← Hy.out]
  · rw [if_neg e]
    by_cases h : j < k
    · rw [if_pos h, if_pos (by omega)]
    · rw [if_neg h, if_neg (by omega)]



end Go.Proofs.YtdjknaafefnlcaaDoor

/-
  The walks of the calls of poly that only read: Degree, trimmed, Eval; and the document's own: At, Degree, Same, Product, Eval.
-/
namespace Go.Proofs.YtdjknaafefnlcaaDoor
open Go.RowKit
open Gf (eI lI gI dI pI)

/-- how long a list's first n elements are without noughts at the end -/
def tN (l : List Int) : Nat → Nat
  | 0 => 0
  | n + 1 => if l[n]?.getD 0 = 0 then tN l n else n + 1
/-- how long a list is without noughts at the end: its degree and one -/
def tl (l : List Int) : Nat := tN l l.length
theorem tN_le (l : List Int) (n : Nat) : tN l n ≤ n := by
  induction n with
  | zero => simp [tN]
  | succ n ih => simp only [tN]; split <;> omega
theorem tN_top (l : List Int) (n : Nat) (h : 0 < tN l n) : l[tN l n - 1]?.getD 0 ≠ 0 := by
  induction n with
  | zero => simp [tN] at h
  | succ n ih =>
    by_cases e : l[n]?.getD 0 = 0
    · have : tN l (n + 1) = tN l n := by simp [tN, e]
      rw [this] at h ⊢; exact ih h
    · have : tN l (n + 1) = n + 1 := by simp [tN, e]
      rw [this]; simpa using e
theorem tN_past (l : List Int) (n i : Nat) (h : tN l n ≤ i) (hi : i < n) : l[i]?.getD 0 = 0 := by
  induction n with
  | zero => omega
  | succ n ih =>
    by_cases e : l[n]?.getD 0 = 0
    · have : tN l (n + 1) = tN l n := by simp [tN, e]
      rw [this] at h
      by_cases e2 : i = n
      · subst e2; exact e
      · exact ih h (by omega)
    · have : tN l (n + 1) = n + 1 := by simp [tN, e]
      omega
theorem tl_le (l : List Int) : tl l ≤ l.length := tN_le l _
theorem tl_top (l : List Int) (h : 0 < tl l) : l[tl l - 1]?.getD 0 ≠ 0 := tN_top l _ h
theorem tl_past (l : List Int) (i : Nat) (h : tl l ≤ i) : l[i]?.getD 0 = 0 := by
  by_cases hi : i < l.length
  · exact tN_past l _ i h hi
  · rw [List.getElem?_eq_none (by omega)]; rfl
theorem tl_unique (l : List Int) (n : Nat) (h1 : 0 < n → l[n - 1]?.getD 0 ≠ 0) (h2 : ∀ i, n ≤ i → l[i]?.getD 0 = 0) : tl l = n := by
  by_cases ha : tl l < n
  · exact absurd (tl_past l (n - 1) (by omega)) (h1 (by omega))
  · by_cases hb : n < tl l
    · exact absurd (h2 (tl l - 1) (by omega)) (tl_top l (by omega))
    · omega

set_option maxHeartbeats 400000 in
theorem degree_any (a : Option Addr) (c : Nat) (l : List Int) (w : World) (sa : SlAt w a l) (ba : Byt l) (ma : l.length ≤ maxLen) :
    Calls Tryd.prog 81 #[.slice a l.length c] w fun e w' => e = .returned (.int .i64 ((tl l : Int) - 1)) ∧ w' = w := by
  unfold maxLen at ma
  go_enter Tryd.func81, Tryd.ntmps81
  go_wp2
  go_loop [3] (fun i => ∃ k : Nat, k ≤ l.length ∧ i = .int .i64 ((k : Int) - 1) ∧ Hid (tl l = tN l k)) (fun i => (intOf i + 1).toNat)
  case atStart => exact ⟨l.length, by omega, rfl, rfl⟩
  case round =>
    obtain ⟨k, hk, rfl, Hk⟩ := hrel
    cases k with
    | zero =>
      go_wp2
      go_ret
      refine ⟨ret_int ?_, rfl⟩
      rw [Hk.out]; rfl
    | succ k =>
      obtain ⟨x, h1, Hx⟩ : ∃ x, (0 ≤ x ∧ x < 256) ∧ Hid (x = l[k]?.getD 0) := ⟨_, ba k (by omega), rfl⟩
      rcases sa with sa | ⟨b1, o1, rfl, hb1, hc1⟩
      · rw [sa] at hk; simp at hk
      have c1 : w.cell? ⟨b1, o1 + k, none⟩ = some (.int .u8 x) := by rw [Hx.out]; exact hc1 k (by omega)
      clear hc1
      have e1 : (((k + 1 : Nat) : Int) - 1) = (k : Int) := by omega
      rw [e1]
      by_cases hz : x = 0
      · have hz' : (x != 0) = false := by simp [hz]
        have HZ : Hid (x = 0) := hz
        clear hz
        go_wp2
        go_round
        case rel => exact ⟨k, by omega, by go_num, by show _ = _; rw [Hk.out]; simp only [tN]; rw [← Hx.out, if_pos HZ.out]⟩
        case measure => simp [intOf]
      · have hz' : (x != 0) = true := by simp [hz]
        go_wp2
        go_ret
        refine ⟨ret_int ?_, rfl⟩
        rw [Hk.out]
        simp only [tN]
        rw [← Hx.out, if_neg hz]; omega

theorem trimmed_any (a : Option Addr) (c : Nat) (l : List Int) (w : World) (sa : SlAt w a l) (ba : Byt l) (ma : l.length ≤ maxLen) (hc : l.length ≤ c) :
    Calls Tryd.prog 86 #[.slice a l.length c] w fun e w' => e = .returned (.slice a (tl l) c) ∧ w' = w := by
  have ht := tl_le l
  have ma' := ma
  unfold maxLen at ma'
  go_enter Tryd.func86, Tryd.ntmps86
  go_wp2_with (go_at_call 81; refine (degree_any a c l _ sa ba ma).mono ?_; rintro e w' ⟨rfl, rfl⟩)
  go_ret
  exact ⟨rfl, rfl⟩




end Go.Proofs.YtdjknaafefnlcaaDoor

/-
  The walks of Eval and of the document's Product and Eval: values as elements.
-/
namespace Go.Proofs.YtdjknaafefnlcaaDoor
open Go.RowKit
open Gf (eI lI gI dI pI)
open Po (toE cf mu S pwr ev cv Low)

/-- an element as the program's byte -/
def ofE (e : Po.El) : Int := ((e.toNat : Nat) : Int)
theorem ofE_bd (e : Po.El) : 0 ≤ ofE e ∧ ofE e < 256 := by
  have := e.isLt; unfold ofE; omega
theorem toE_ofE (e : Po.El) : toE (ofE e) = e := Po.el_ext (Po.toE_nat _ (by have := e.isLt; omega))
theorem ofE_toE (a : Int) (h0 : 0 ≤ a) (h1 : a < 256) : ofE (toE a) = a := Po.toE_toNat a h0 h1
theorem ofE_inj {a b : Po.El} (h : ofE a = ofE b) : a = b := by rw [← toE_ofE a, ← toE_ofE b, h]
theorem gI_ofE (a b : Po.El) : gI (ofE a) (ofE b) = ofE (mu a b) := by
  have h1 := ofE_bd a
  have h2 := ofE_bd b
  have h3 := Gf.gI_bd (ofE a) (ofE b)
  rw [← ofE_toE _ h3.1 h3.2, Po.toE_gI _ _ h1.1 h1.2 h2.1 h2.2, toE_ofE, toE_ofE]
theorem xor_ofE (a b : Po.El) : bits .xor .u8 (ofE a) (ofE b) = ofE (a ^^^ b) := by
  have h1 := ofE_bd a
  have h2 := ofE_bd b
  have h3 := Gf.xor8_bd _ _ h1.1 h1.2 h2.1 h2.2
  rw [← ofE_toE _ h3.1 h3.2, Po.toE_xor _ _ h1.1 h1.2 h2.1 h2.2, toE_ofE, toE_ofE]
theorem ofE_cf (l : List Int) (hb : Byt l) (i : Nat) : ofE (cf l i) = l[i]?.getD 0 := by
  by_cases h : i < l.length
  · exact ofE_toE _ (hb i h).1 (hb i h).2
  · unfold cf; rw [List.getElem?_eq_none (by omega)]; rfl
theorem ofE_zero : ofE 0 = 0 := rfl
theorem ofE_eq_zero (e : Po.El) : ofE e = 0 ↔ e = 0 := ⟨fun h => ofE_inj (h.trans ofE_zero.symm), fun h => by rw [h]; rfl⟩



/-- what the value is, when all from k on was taken in -/
def hor (l : List Int) (X : Po.El) (k : Nat) : Po.El := S (l.length - k) (fun i => mu (cf l (k + i)) (pwr X i))
theorem hor_end (l : List Int) (X : Po.El) : hor l X l.length = 0 := by unfold hor; rw [Nat.sub_self]; rfl
theorem hor_zero (l : List Int) (X : Po.El) : hor l X 0 = ev l.length (cf l) X := by
  unfold hor ev; simp
theorem hor_step (l : List Int) (X : Po.El) (k : Nat) (h : k < l.length) : mu (hor l X (k + 1)) X ^^^ cf l k = hor l X k := by
  unfold hor
  obtain ⟨m, hm⟩ : ∃ m, l.length - k = m + 1 := ⟨l.length - k - 1, by omega⟩
  rw [hm, Po.S_first, show l.length - (k + 1) = m from by omega, Po.S_mu, BitVec.xor_comm]
  congr 1
  · show _ = mu (cf l k) 1; rw [Po.mu_one]
  · refine Po.S_congr _ _ _ (fun i _ => ?_)
    rw [Po.mu_assoc, show k + 1 + i = k + (i + 1) from by omega]; rfl

set_option maxRecDepth 100000 in
set_option maxHeartbeats 400000 in
theorem eval_any (b : Nat) (a : Option Addr) (c n : Nat) (l : List Int) (x : Int) (w : World) (hf : FldAt w b) (sa : SlAt w a l) (ba : Byt l) (ma : n ≤ maxLen) (en : l.length = n) (hx : 0 ≤ x ∧ x < 256) :
    Calls Tryd.prog 89 #[.pointer (some ⟨b, 0, none⟩), .slice a n c, .int .u8 x] w fun e w' => e = .returned (.int .u8 (ofE (ev l.length (cf l) (toE x)))) ∧ ∃ k, w' = w.drewN k := by
  subst en
  unfold maxLen at ma
  go_enter Tryd.func89, Tryd.ntmps89
  go_wp2
  go_loopw [7, 8] (fun v i wr => ∃ k : Nat, k ≤ l.length ∧ i = .int .i64 ((k : Int) - 1) ∧ v = .int .u8 (ofE (hor l (toE x) k)) ∧ Hid (∃ q, wr = w.drewN q)) (fun _ i _ => (intOf i + 1).toNat)
  case atStart => exact ⟨l.length, by omega, rfl, by rw [hor_end]; rfl, ⟨0, rfl⟩⟩
  case round =>
    obtain ⟨k, hk, rfl, rfl, HQ⟩ := hrel
    cases k with
    | zero =>
      go_wp2
      go_ret
      exact ⟨ret_int (by rw [hor_zero]), HQ.out⟩
    | succ k =>
      obtain ⟨y, h1, Hy⟩ : ∃ y, (0 ≤ y ∧ y < 256) ∧ Hid (y = l[k]?.getD 0) := ⟨_, ba k (by omega), rfl⟩
      obtain ⟨v, h2, Hv⟩ : ∃ v, (0 ≤ v ∧ v < 256) ∧ Hid (ofE (hor l (toE x) (k + 1)) = v) := ⟨_, ofE_bd _, rfl⟩
      rcases sa with sa | ⟨b1, o1, rfl, hb1, hc1⟩
      · rw [sa] at hk; simp at hk
      have c1 : wr.cell? ⟨b1, o1 + k, none⟩ = some (.int .u8 y) := by rw [Hy.out]; obtain ⟨q, e⟩ := HQ.out; rw [e]; exact hc1 k (by omega)
      have hfr : FldAt wr b := by obtain ⟨q, e⟩ := HQ.out; rw [e]; exact hf.drewN q
      clear hc1
      have e1 : (((k + 1 : Nat) : Int) - 1) = (k : Int) := by omega
      rw [e1, Hv.out]
      clear e1
      go_wp2
      go_quiet ((go_at_call 85; exact Calls.quiet_of (mul_any _ _ _ (by omega) (by omega) (by omega) (by omega) _ (by exact hfr.of (fun _ => rfl)))))
      go_wp2
      go_roundw
      case rel =>
        refine ⟨k, by omega, by go_num, ?_, by obtain ⟨q, e⟩ := HQ.out; rw [e]; exact ⟨_, World.drewN_drewN _ _ _⟩⟩
        rw [← Hv.out, ← ofE_toE x hx.1 hx.2, gI_ofE, Hy.out, ← ofE_cf l ba k, xor_ofE, ofE_toE x hx.1 hx.2, hor_step l (toE x) k (by omega)]
      case measure => simp [intOf]


/-- the first k products of the coefficient at n -/
def prN (p q : List Int) (n k : Nat) : Po.El := S k (fun i => mu (cf p i) (cf q (n - i)))
theorem prN_end (p q : List Int) (n k : Nat) (h1 : k ≤ n + 1) (h : k = n + 1 ∨ p.length ≤ k) : prN p q n k = cv (cf p) (cf q) n := by
  rcases h with rfl | h
  · rfl
  · exact (Po.S_more k (n + 1) _ (fun i hi => by show mu (cf p i) _ = 0; rw [Po.cf_low p i (by omega), Po.zero_mu]) h1).symm


end Go.Proofs.YtdjknaafefnlcaaDoor
