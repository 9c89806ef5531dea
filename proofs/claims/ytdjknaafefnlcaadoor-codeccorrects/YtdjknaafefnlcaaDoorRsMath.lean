/-
  Plain mathematics of layer 5: words of 39 symbols over the field; a word that is 0 at the four roots and has at most four symbols other than 0 is 0; whose place four syndromes tell.
-/
import Derived.Test.YtdjknaafefnlcaaDoorPolyMath
namespace Go.Proofs.YtdjknaafefnlcaaDoor.Rm
open Po

/-- the i-th power of x -/
def al (i : Nat) : El := pwr 2 i
theorem al_toNat (i : Nat) : (al i).toNat = Gf.ex i := by
  induction i with
  | zero => rfl
  | succ i ih =>
    show (mu (al i) 2).toNat = Gf.ex (i + 1)
    rw [mu_toNat, ih, show (2 : El).toNat = Gf.ex 1 from rfl, Gf.gm_ex]
theorem al_inj {i j : Nat} (hi : i < 255) (hj : j < 255) (h : al i = al j) : i = j :=
  Gf.ex_inj i j hi hj (by rw [← al_toNat, ← al_toNat, h])
theorem al_ne (i : Nat) : al i ≠ 0 := fun h => Gf.ex_pos i (by rw [← al_toNat, h]; rfl)
theorem pwr_mul (x : El) (n m : Nat) : pwr (pwr x n) m = pwr x (n * m) := by
  induction m with
  | zero => rfl
  | succ m ih => show mu (pwr (pwr x n) m) (pwr x n) = pwr x (n * m + n); rw [ih, pwr_add]
theorem al_swap (i j : Nat) : pwr (al j) i = pwr (al i) j := by unfold al; rw [pwr_mul, pwr_mul, Nat.mul_comm]

/-! ### sums of powers -/
def ps : List (El × El) → Nat → El
  | [], _ => 0
  | p :: l, j => mu p.1 (pwr p.2 j) ^^^ ps l j
/-- each term times its place less x0 -/
def less (x0 : El) (l : List (El × El)) : List (El × El) := l.map fun p => (mu p.1 (p.2 ^^^ x0), p.2)
theorem ps_less (x0 : El) (l : List (El × El)) (j : Nat) : ps (less x0 l) j = ps l (j + 1) ^^^ mu x0 (ps l j) := by
  induction l with
  | nil => show (0 : El) = 0 ^^^ mu x0 0; rw [mu_zero]; rfl
  | cons p l ih =>
    show mu (mu p.1 (p.2 ^^^ x0)) (pwr p.2 j) ^^^ ps (less x0 l) j = (mu p.1 (mu (pwr p.2 j) p.2) ^^^ ps l (j + 1)) ^^^ mu x0 (mu p.1 (pwr p.2 j) ^^^ ps l j)
    rw [ih, mu_xor x0, xor4]
    congr 1
    rw [mu_assoc, xor_mu, mu_xor, mu_comm p.2 (pwr p.2 j)]
    congr 1
    rw [← mu_assoc, ← mu_assoc, mu_comm p.1 x0]
theorem vand : ∀ (n : Nat) (l : List (El × El)), l.length = n → (l.map Prod.snd).Nodup → (∀ j, j < n → ps l j = 0) → ∀ p ∈ l, p.1 = 0
  | 0, l, hl, _, _, p, hp => by
    have : l = [] := List.eq_nil_of_length_eq_zero hl
    rw [this] at hp; cases hp
  | n + 1, [], hl, _, _, p, hp => by cases hp
  | n + 1, (e0, x0) :: t, hl, hd, h, p, hp => by
    have hd' := List.nodup_cons.1 (show (x0 :: t.map Prod.snd).Nodup from hd)
    have ht : t.length = n := by simpa using hl
    have h' : ∀ j, j < n → ps (less x0 t) j = 0 := by
      intro j hj
      have e1 := h j (by omega)
      have e2 := h (j + 1) (by omega)
      have e3 := ps_less x0 ((e0, x0) :: t) j
      rw [e1, e2, mu_zero] at e3
      have e4 : ps (less x0 ((e0, x0) :: t)) j = ps (less x0 t) j := by
        show mu (mu e0 (x0 ^^^ x0)) (pwr x0 j) ^^^ ps (less x0 t) j = _
        rw [xor_self', mu_zero, zero_mu, z0]
      rw [← e4, e3]; rfl
    have hs : (less x0 t).map Prod.snd = t.map Prod.snd := by unfold less; rw [List.map_map]; rfl
    have all := vand n (less x0 t) (by unfold less; rw [List.length_map]; exact ht) (by rw [hs]; exact hd'.2) h'
    have tz : ∀ q ∈ t, q.1 = 0 := by
      intro q hq
      have := all (mu q.1 (q.2 ^^^ x0), q.2) (List.mem_map.2 ⟨q, hq, rfl⟩)
      by_cases hq0 : q.1 = 0
      · exact hq0
      · exfalso
        have hne : q.2 ^^^ x0 ≠ 0 := fun e => hd'.1 (by rw [← xor_eq_zero e]; exact List.mem_map.2 ⟨q, hq, rfl⟩)
        exact mu_ne _ _ hq0 hne this
    have pz : ∀ (t : List (El × El)), (∀ q ∈ t, q.1 = 0) → ps t 0 = 0 := by
      intro t
      induction t with
      | nil => intro _; rfl
      | cons q t ih =>
        intro hq
        show mu q.1 (pwr q.2 0) ^^^ ps t 0 = 0
        rw [hq q (by simp), zero_mu, z0, ih (fun r hr => hq r (by simp [hr]))]
    rcases List.mem_cons.1 hp with rfl | hp
    · have e1 := h 0 (by omega)
      have e2 : mu e0 (pwr x0 0) ^^^ ps t 0 = 0 := e1
      rw [pz t tz, Po.x0, show pwr x0 0 = 1 from rfl, mu_one] at e2
      exact e2
    · exact tz p hp

/-! ### words -/
/-- the symbols of the first n that are not 0 -/
def supp : Nat → (Nat → El) → List Nat
  | 0, _ => []
  | n + 1, W => if W n = 0 then supp n W else supp n W ++ [n]
theorem supp_no (n : Nat) (W : Nat → El) (h : W n = 0) : supp (n + 1) W = supp n W := by unfold supp; rw [if_pos h]; cases n <;> rfl
theorem supp_yes (n : Nat) (W : Nat → El) (h : W n ≠ 0) : supp (n + 1) W = supp n W ++ [n] := by
  show (if W n = 0 then supp n W else supp n W ++ [n]) = _
  rw [if_neg h]
theorem mem_supp (n : Nat) (W : Nat → El) (i : Nat) : i ∈ supp n W ↔ i < n ∧ W i ≠ 0 := by
  induction n with
  | zero =>
    constructor
    · intro h
      cases h
    · intro h
      omega
  | succ n ih =>
    by_cases h : W n = 0
    · rw [supp_no n W h, ih]
      constructor
      · rintro ⟨h1, h2⟩; exact ⟨by omega, h2⟩
      · rintro ⟨h1, h2⟩
        by_cases e : i = n
        · rw [e] at h2; exact absurd h h2
        · exact ⟨by omega, h2⟩
    · rw [supp_yes n W h, List.mem_append, ih]
      constructor
      · rintro (⟨h1, h2⟩ | h1)
        · exact ⟨by omega, h2⟩
        · obtain rfl := List.mem_singleton.1 h1
          exact ⟨by omega, h⟩
      · rintro ⟨h1, h2⟩
        by_cases e : i = n
        · exact .inr (by rw [e]; exact List.mem_singleton.2 rfl)
        · exact .inl ⟨by omega, h2⟩
theorem supp_nodup (n : Nat) (W : Nat → El) : (supp n W).Nodup := by
  induction n with
  | zero => exact List.nodup_nil
  | succ n ih =>
    by_cases h : W n = 0
    · rw [supp_no n W h]; exact ih
    · rw [supp_yes n W h]
      refine List.nodup_append.2 ⟨ih, by simp, ?_⟩
      intro a ha b hb e
      have := (mem_supp n W a).1 ha
      have := List.mem_singleton.1 hb
      omega
theorem ps_append (a b : List (El × El)) (j : Nat) : ps (a ++ b) j = ps a j ^^^ ps b j := by
  induction a with
  | nil => exact (z0 _).symm
  | cons p a ih => show mu p.1 (pwr p.2 j) ^^^ ps (a ++ b) j = (mu p.1 (pwr p.2 j) ^^^ ps a j) ^^^ ps b j; rw [ih, BitVec.xor_assoc]
theorem ev_supp (W : Nat → El) (n j : Nat) : ev n W (al j) = ps ((supp n W).map fun i => (W i, al i)) j := by
  induction n with
  | zero => rfl
  | succ n ih =>
    show ev n W (al j) ^^^ mu (W n) (pwr (al j) n) = _
    rw [ih, al_swap]
    by_cases h : W n = 0
    · rw [supp_no n W h, h, zero_mu, Po.x0]
    · rw [supp_yes n W h, List.map_append, ps_append]
      congr 1
      exact (Po.x0 _).symm
/-- a word that is 0 at the four roots and has at most four symbols but 0 is 0 -/
theorem few (W : Nat → El) (h : ∀ j, j < 4 → ev 39 W (al j) = 0) (hs : (supp 39 W).length ≤ 4) : ∀ i, i < 39 → W i = 0 := by
  intro i hi
  by_cases h0 : W i = 0
  · exact h0
  · have hm : i ∈ supp 39 W := (mem_supp 39 W i).2 ⟨hi, h0⟩
    refine vand _ ((supp 39 W).map fun i => (W i, al i)) rfl ?_ ?_ (W i, al i) (List.mem_map.2 ⟨i, hm, rfl⟩)
    · rw [List.map_map]
      have hnd := supp_nodup 39 W
      refine (List.pairwise_map).2 ?_
      refine List.Pairwise.imp_of_mem ?_ hnd
      intro a b ha hb hab e
      have ha' := ((mem_supp 39 W a).1 ha).1
      have hb' := ((mem_supp 39 W b).1 hb).1
      exact hab (al_inj (by omega) (by omega) e)
    · intro j hj
      rw [← ev_supp]
      rw [List.length_map] at hj
      exact h j (by omega)
theorem nodup_le : ∀ (A L : List Nat), A.Nodup → (∀ i ∈ A, i ∈ L) → A.length ≤ L.length
  | [], L, _, _ => Nat.zero_le _
  | a :: A, L, hn, hs => by
    have hn' := List.nodup_cons.1 hn
    have ha := hs a (by simp)
    have := nodup_le A (L.erase a) hn'.2 (fun i hi => (List.mem_erase_of_ne (fun e => hn'.1 (by rw [← e]; exact hi))).2 (hs i (by simp [hi])))
    rw [List.length_erase_of_mem ha] at this
    have hpos : 0 < L.length := List.length_pos_of_mem ha
    simp only [List.length_cons]; omega
theorem supp_sub (W : Nat → El) (L : List Nat) (n : Nat) (h : ∀ i, i < n → W i ≠ 0 → i ∈ L) : (supp n W).length ≤ L.length := by
  refine nodup_le _ L (supp_nodup n W) ?_
  intro i hi
  have := (mem_supp n W i).1 hi
  exact h i this.1 this.2

/-- a word is a code word -/
def IsCode (W : Nat → El) : Prop := ∀ j, j < 4 → ev 39 W (al j) = 0
theorem IsCode.xor {W U : Nat → El} (h : IsCode W) (k : IsCode U) : IsCode (fun i => W i ^^^ U i) := fun j hj => by
  rw [ev_xor, h j hj, k j hj]; rfl
theorem IsCode.scale {W : Nat → El} (h : IsCode W) (a : El) : IsCode (fun i => mu (W i) a) := fun j hj => by
  rw [ev_scale, h j hj, zero_mu]
/-- unlike code words differ in five symbols at least -/
theorem apart {W U : Nat → El} (h : IsCode W) (k : IsCode U) (hs : (supp 39 fun i => W i ^^^ U i).length ≤ 4) : ∀ i, i < 39 → W i = U i :=
  fun i hi => xor_eq_zero (few _ (h.xor k) hs i hi)
/-- the checks are the only ones -/
theorem checks_only {W U : Nat → El} (h : IsCode W) (k : IsCode U) (he : ∀ i, 4 ≤ i → i < 39 → W i = U i) : ∀ i, i < 39 → W i = U i :=
  apart h k (Nat.le_trans (supp_sub _ [0, 1, 2, 3] 39 (fun i hi hne => by
    by_cases h4 : 4 ≤ i
    · exact absurd (by show W i ^^^ U i = 0; rw [he i h4 hi, xor_self']) hne
    · simp; omega)) (by simp))

/-! ### whose place -/
/-- one symbol at the place i, with the value a -/
def one' (i : Nat) (a : El) : Nat → El := fun k => if k = i then a else 0
theorem ev_one (i : Nat) (a : El) (j : Nat) (hi : i < 39) : ev 39 (one' i a) (al j) = mu a (pwr (al i) j) := by
  unfold ev
  rw [S_one 39 i _ hi (fun k _ hk => by unfold one'; rw [if_neg hk, zero_mu])]
  unfold one'; rw [if_pos rfl, al_swap]
/-- four syndromes are those of a symbol at the place i -/
abbrev At (s : Nat → El) (i : Nat) : Prop := s 0 ≠ 0 ∧ s 1 = mu (s 0) (al i) ∧ s 2 = mu (s 1) (al i) ∧ s 3 = mu (s 2) (al i)
theorem at_iff (s : Nat → El) (i : Nat) : At s i ↔ s 0 ≠ 0 ∧ ∀ j, j < 4 → s j = mu (s 0) (pwr (al i) j) := by
  constructor
  · rintro ⟨h0, h1, h2, h3⟩
    have p0 : pwr (al i) 0 = 1 := rfl
    have p1 : pwr (al i) 1 = al i := one_mu _
    have p2 : pwr (al i) 2 = mu (al i) (al i) := by show mu (pwr (al i) 1) (al i) = _; rw [p1]
    have p3 : pwr (al i) 3 = mu (mu (al i) (al i)) (al i) := by show mu (pwr (al i) 2) (al i) = _; rw [p2]
    refine ⟨h0, fun j hj => ?_⟩
    rcases (show j = 0 ∨ j = 1 ∨ j = 2 ∨ j = 3 by omega) with rfl | rfl | rfl | rfl
    · rw [p0, mu_one]
    · rw [p1]; exact h1
    · rw [p2, h2, h1, mu_assoc]
    · rw [p3, h3, h2, h1, mu_assoc, mu_assoc, mu_assoc]
  · rintro ⟨h0, h⟩
    have st : ∀ j, pwr (al i) (j + 1) = mu (pwr (al i) j) (al i) := fun j => rfl
    refine ⟨h0, ?_, ?_, ?_⟩
    · rw [h 1 (by omega), show pwr (al i) 1 = al i from one_mu _]
    · rw [h 2 (by omega), h 1 (by omega), st 1, mu_assoc]
    · rw [h 3 (by omega), h 2 (by omega), st 2, mu_assoc]
theorem at_only {s : Nat → El} {i k : Nat} (hi : i < 39) (hk : k < 39) (h : At s i) (g : At s k) : i = k := by
  have e : mu (s 0) (al i) = mu (s 0) (al k) := by rw [← h.2.1, ← g.2.1]
  have e2 : mu (s 0) (al i ^^^ al k) = 0 := by rw [mu_xor, e, xor_self']
  by_cases hne : al i ^^^ al k = 0
  · exact al_inj (by omega) (by omega) (xor_eq_zero hne)
  · exact absurd e2 (mu_ne _ _ h.1 hne)
/-- the syndromes of a word -/
def sy (W : Nat → El) (j : Nat) : El := ev 39 W (al j)
theorem sy_one (i : Nat) (a : El) (hi : i < 39) (ha : a ≠ 0) : At (sy (one' i a)) i := (at_iff _ _).2 (by
  have h0 : sy (one' i a) 0 = a := by unfold sy; rw [ev_one i a 0 hi]; exact mu_one a
  refine ⟨by rw [h0]; exact ha, fun j _ => ?_⟩
  rw [h0]; exact ev_one i a j hi)
theorem sy_one0 (i : Nat) (a : El) (hi : i < 39) : sy (one' i a) 0 = a := by unfold sy; rw [ev_one i a 0 hi]; exact mu_one a
/-- with two or three symbols but 0 a word is no code word, nor one but for a symbol -/
theorem two_three (E : Nat → El) (h2 : 2 ≤ (supp 39 E).length) (h3 : (supp 39 E).length ≤ 3) : ¬ IsCode E ∧ ∀ i, i < 39 → ¬ At (sy E) i := by
  constructor
  · intro h
    have hz := few E h (by omega)
    have : (supp 39 E).length ≤ 0 := supp_sub E [] 39 (fun i hi hne => absurd (hz i hi) hne)
    omega
  · intro i hi hat
    obtain ⟨_, hj⟩ := (at_iff _ _).1 hat
    have hc : ∀ j, j < 4 → ev 39 (fun k => E k ^^^ one' i (sy E 0) k) (al j) = 0 := by
      intro j h
      rw [ev_xor, ev_one _ _ _ hi]
      have := hj j h
      unfold sy at this ⊢
      rw [← this, xor_self']
    have hz := few _ hc (Nat.le_trans (supp_sub _ (i :: supp 39 E) 39 (fun k hk hne => by
      by_cases e : k = i
      · rw [e]; exact List.mem_cons_self
      · refine List.mem_cons.2 (.inr ((mem_supp 39 E k).2 ⟨hk, ?_⟩))
        unfold one' at hne
        rw [if_neg e, Po.x0] at hne
        exact hne)) (by simp only [List.length_cons]; omega))
    have hle : (supp 39 E).length ≤ 1 := by
      refine Nat.le_trans (supp_sub E [i] 39 (fun k hk hne => ?_)) (by simp)
      by_cases e : k = i
      · simp [e]
      · have := hz k hk
        unfold one' at this
        rw [if_neg e, Po.x0] at this
        exact absurd this hne
    omega
end Go.Proofs.YtdjknaafefnlcaaDoor.Rm
