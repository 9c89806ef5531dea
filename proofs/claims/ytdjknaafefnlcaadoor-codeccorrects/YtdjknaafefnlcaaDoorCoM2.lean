/-
  Layer 10's mathematics, mode 1, word by word: what is told of a word that is unlike in up to two bits.
-/
import Derived.Test.YtdjknaafefnlcaaDoorCoMath
namespace Go.Proofs.YtdjknaafefnlcaaDoor.Co
open Go Go.RowKit
open Bm (wt wtK)
open Hm (col xs ap syn kd pl)
open Ln (val wrd)

theorem val_shift (f g : Nat → Nat) : ∀ (n o o' : Nat), (∀ j, j < n → f (o + j) = g (o' + j)) → val f n o = val g n o'
  | 0, _, _, _ => rfl
  | n + 1, o, o', h => by
    show f o + 256 * val f n (o + 1) = g o' + 256 * val g n (o' + 1)
    rw [val_shift f g n (o + 1) (o' + 1) fun j hj => by have := h (j + 1) (by omega); rwa [show o + 1 + j = o + (j + 1) by omega, show o' + 1 + j = o' + (j + 1) by omega]]
    have := h 0 (by omega)
    simp only [Nat.add_zero] at this
    rw [this]
theorem sm_val (F G : Nat → Int) (o n : Nat) (hF : ∀ i, i < n → 0 ≤ F (o + i) ∧ F (o + i) < 256) (hG : ∀ i, i < n → 0 ≤ G (o + i) ∧ G (o + i) < 256) :
    Rw.sm 1 F G o n = wtK (8 * n) (val (fun i => (F i).toNat) n o ^^^ val (fun i => (G i).toNat) n o) := by
  induction n with
  | zero => rfl
  | succ n ih =>
    have h0 := ih (fun i hi => hF i (by omega)) (fun i hi => hG i (by omega))
    have lF := Ln.val_lt (fun i => (F i).toNat) n o fun j h1 h2 => by
      have := hF (j - o) (by omega)
      rw [show o + (j - o) = j by omega] at this
      show (F j).toNat < 256
      omega
    have lG := Ln.val_lt (fun i => (G i).toNat) n o fun j h1 h2 => by
      have := hG (j - o) (by omega)
      rw [show o + (j - o) = j by omega] at this
      show (G j).toNat < 256
      omega
    rw [show (256 : Nat) ^ n = 2 ^ (8 * n) by rw [Nat.pow_mul]] at lF lG
    rw [Rw.sm, h0, Ln.val_top, Ln.val_top]
    obtain ⟨x, hx⟩ : ∃ x, val (fun i => (F i).toNat) n o = x := ⟨_, rfl⟩
    obtain ⟨y, hy⟩ : ∃ y, val (fun i => (G i).toNat) n o = y := ⟨_, rfl⟩
    rw [hx] at lF ⊢
    rw [hy] at lG ⊢
    have bF := hF n (by omega)
    have bG := hG n (by omega)
    obtain ⟨u, hu⟩ : ∃ u, (F (o + n)).toNat = u := ⟨_, rfl⟩
    obtain ⟨v, hv⟩ : ∃ v, (G (o + n)).toNat = v := ⟨_, rfl⟩
    have hu8 : u < 2 ^ 8 := by omega
    have hv8 : v < 2 ^ 8 := by omega
    unfold Rw.dl
    rw [if_pos rfl]
    show _ = wtK (8 * (n + 1)) ((x + (F (o + n)).toNat * 256 ^ n) ^^^ (y + (G (o + n)).toNat * 256 ^ n))
    rw [hu, hv, show (256 : Nat) ^ n = 2 ^ (8 * n) by rw [Nat.pow_mul], show 8 * (n + 1) = 8 * n + 8 by omega, Bm.wtK_add]
    have e1 : ((x + u * 2 ^ (8 * n)) ^^^ (y + v * 2 ^ (8 * n))) / 2 ^ (8 * n) = u ^^^ v := by
      rw [← Nat.shiftRight_eq_div_pow, Nat.shiftRight_xor_distrib, Nat.shiftRight_eq_div_pow, Nat.shiftRight_eq_div_pow, Nat.add_mul_div_right _ _ (Nat.two_pow_pos _), Nat.add_mul_div_right _ _ (Nat.two_pow_pos _), Nat.div_eq_of_lt lF, Nat.div_eq_of_lt lG, Nat.zero_add, Nat.zero_add]
    have e2 : ((x + u * 2 ^ (8 * n)) ^^^ (y + v * 2 ^ (8 * n))) % 2 ^ (8 * n) = x ^^^ y := by
      rw [Nat.xor_mod_two_pow, Nat.add_mul_mod_self_right, Nat.add_mul_mod_self_right, Nat.mod_eq_of_lt lF, Nat.mod_eq_of_lt lG]
    rw [e1, ← Bm.wtK_mod (8 * n) ((x + u * 2 ^ (8 * n)) ^^^ (y + v * 2 ^ (8 * n))), e2, Bm.wtK_wt 8 _ (by decide) (Nat.xor_lt_two_pow hu8 hv8)]

/-- the data and the check bits of the word k of raw bytes -/
def dw (R : Nat → Int) (k : Nat) : Nat := val (fun i => (R i).toNat) 8 (9 * k)
def cw (R : Nat → Int) (k : Nat) : Nat := (R (9 * k + 8)).toNat
/-- a word's syndrome, where it is decoded for an address of the parity b -/
def sB (R : Nat → Int) (b : Int) (k : Nat) : Nat := syn (dw R k) (cw R k) b 0
/-- raw bytes are a line's, for an address of the parity a, with the poison's bit p -/
structure Enc1 (F : Nat → Int) (a p : Int) (R : Nat → Int) : Prop where
  d : ∀ k, k < 8 → ∀ j, j < 8 → R (9 * k + j) = F (8 * k + j)
  c : ∀ k, k < 8 → R (9 * k + 8) = (syn (wrd F k) 0 a p : Int)
def Bt (n : Nat) (F : Nat → Int) : Prop := ∀ i, i < n → 0 ≤ F i ∧ F i < 256
theorem dw_lt {R : Nat → Int} (hR : Bt 72 R) (k : Nat) (hk : k < 8) : dw R k < 18446744073709551616 := by
  have := Ln.val_lt (fun i => (R i).toNat) 8 (9 * k) fun j h1 h2 => by
    have := hR j (by omega)
    show (R j).toNat < 256
    omega
  exact this
theorem cw_lt {R : Nat → Int} (hR : Bt 72 R) (k : Nat) (hk : k < 8) : cw R k < 256 := by
  have := hR (9 * k + 8) (by omega)
  unfold cw; omega
theorem Enc1.byt {F R : Nat → Int} {a p : Int} (h : Enc1 F a p R) (hF : Bt 64 F) : Bt 72 R := by
  intro i hi
  by_cases e : i % 9 = 8
  · have := h.c (i / 9) (by omega)
    rw [show 9 * (i / 9) + 8 = i by omega] at this
    rw [this]
    have := Hm.syn_lt (wrd F (i / 9)) 0 a p (by omega)
    omega
  · have := h.d (i / 9) (by omega) (i % 9) (by omega)
    rw [show 9 * (i / 9) + i % 9 = i by omega] at this
    rw [this]
    exact hF _ (by omega)
theorem Enc1.dw {F R : Nat → Int} {a p : Int} (h : Enc1 F a p R) (k : Nat) (hk : k < 8) : Co.dw R k = wrd F k :=
  val_shift _ _ 8 _ _ fun j hj => by
    show (R (9 * k + j)).toNat = (F (8 * k + j)).toNat
    rw [h.d k hk j hj]
theorem Enc1.cw {F R : Nat → Int} {a p : Int} (h : Enc1 F a p R) (k : Nat) (hk : k < 8) : Co.cw R k = syn (wrd F k) 0 a p := by
  unfold Co.cw; rw [h.c k hk]; rfl
theorem Enc1.same {F R R' : Nat → Int} {a p : Int} (h : Enc1 F a p R) (h' : Enc1 F a p R') : ∀ i, i < 72 → R i = R' i := by
  intro i hi
  by_cases e : i % 9 = 8
  · have h1 := h.c (i / 9) (by omega)
    have h2 := h'.c (i / 9) (by omega)
    rw [show 9 * (i / 9) + 8 = i by omega] at h1 h2
    rw [h1, h2]
  · have h1 := h.d (i / 9) (by omega) (i % 9) (by omega)
    have h2 := h'.d (i / 9) (by omega) (i % 9) (by omega)
    rw [show 9 * (i / 9) + i % 9 = i by omega] at h1 h2
    rw [h1, h2]
/-- how unlike two words are -/
theorem sm_word {X R : Nat → Int} (hX : Bt 72 X) (hR : Bt 72 R) (k : Nat) (hk : k < 8) : Rw.sm 1 X R (9 * k) 9 = wt (dw X k ^^^ dw R k) + wt (cw X k ^^^ cw R k) := by
  rw [show Rw.sm 1 X R (9 * k) 9 = Rw.sm 1 X R (9 * k) 8 + Rw.dl 1 (X (9 * k + 8)) (R (9 * k + 8)) from rfl, sm_val X R (9 * k) 8 (fun i hi => hX _ (by omega)) (fun i hi => hR _ (by omega))]
  unfold Rw.dl
  rw [if_pos rfl]; rfl

theorem ap_both (a b : Int) (ha : a = 0 ∨ a = 1) (hb : b = 0 ∨ b = 1) (da : Nat) (h : da = if a = b then 0 else 1) : (if da = 1 then col 72 else 0) = ap a 72 ^^^ ap b 72 := by
  subst h
  rcases ha with rfl | rfl <;> rcases hb with rfl | rfl <;> decide +kernel
theorem ap_one (p : Int) (hp : p = 0 ∨ p = 1) : (if p.toNat = 1 then col 73 else 0) = ap p 73 := by
  rcases hp with rfl | rfl <;> decide +kernel
/-- a word's syndrome tells of what is unlike alone -/
theorem syn_em {wo wr co cr : Nat} {a b p : Int} (ha : a = 0 ∨ a = 1) (hb : b = 0 ∨ b = 1) (hp : p = 0 ∨ p = 1) (h1 : wo < 18446744073709551616) (h2 : wr < 18446744073709551616) (h3 : cr < 256) (hco : co = syn wo 0 a p) (da : Nat) (hda : da = if a = b then 0 else 1) :
    syn wr cr b 0 = xs (em (wo ^^^ wr) (co ^^^ cr) da p.toNat) 74 := by
  have hc : co < 256 := by rw [hco]; exact Hm.syn_lt _ _ _ _ (by omega)
  rw [em_xs _ _ _ _ (Nat.xor_lt_two_pow (n := 64) h1 h2) (Nat.xor_lt_two_pow (n := 8) hc h3) (by subst hda; split <;> omega) (by omega), ap_both a b ha hb da hda, ap_one p hp, Hm.xs_xor, hco]
  unfold syn
  rw [show ap 0 73 = 0 from rfl, Nat.xor_zero, Nat.zero_xor]
  generalize xs wo 64 = u
  generalize xs wr 64 = v
  generalize ap a 72 = x
  generalize ap b 72 = y
  generalize ap p 73 = z
  rw [show u ^^^ v ^^^ (u ^^^ x ^^^ z ^^^ cr) ^^^ (x ^^^ y) ^^^ z = (cr ^^^ v ^^^ y) ^^^ ((u ^^^ u) ^^^ ((x ^^^ x) ^^^ (z ^^^ z))) from by ac_rfl, Nat.xor_self, Nat.xor_self, Nat.xor_self, Nat.xor_zero, Nat.xor_zero, Nat.xor_zero]
theorem xor_zero_eq {a b : Nat} (h : a ^^^ b = 0) : b = a := by
  have : (a ^^^ b) ^^^ b = b := by rw [h, Nat.zero_xor]
  rw [Nat.xor_assoc, Nat.xor_self, Nat.xor_zero] at this
  exact this.symm
/-- what is told of a word that is unlike in t bits, with the address's and the poison's -/
theorem word1 {wo wr co cr : Nat} {a b p : Int} (ha : a = 0 ∨ a = 1) (hb : b = 0 ∨ b = 1) (hp : p = 0 ∨ p = 1) (h1 : wo < 18446744073709551616) (h2 : wr < 18446744073709551616) (h3 : cr < 256) (hco : co = syn wo 0 a p) (da : Nat) (hda : da = if a = b then 0 else 1) (t : Nat) (ht : t = wt (wo ^^^ wr) + wt (co ^^^ cr) + da + p.toNat) :
    (t = 0 → kd (syn wr cr b 0) = 0 ∧ fx wr (syn wr cr b 0) = wo) ∧
    (t = 1 → (da = 0 → p = 0 → kd (syn wr cr b 0) = 1 ∧ fx wr (syn wr cr b 0) = wo) ∧ (da = 1 → kd (syn wr cr b 0) = 3) ∧ (p = 1 → kd (syn wr cr b 0) = 2)) ∧
    (t = 2 → kd (syn wr cr b 0) = 4) := by
  have hc : co < 256 := by rw [hco]; exact Hm.syn_lt _ _ _ _ (by omega)
  have he := Nat.xor_lt_two_pow (n := 64) h1 h2
  have hf := Nat.xor_lt_two_pow (n := 8) hc h3
  have hd2 : da < 2 := by subst hda; split <;> omega
  have hp2 : p.toNat < 2 := by omega
  rw [syn_em ha hb hp h1 h2 h3 hco da hda]
  have hw := em_wt _ _ da p.toNat he hf hd2 hp2
  have hlow : ∀ i, i < 64 → em (wo ^^^ wr) (co ^^^ cr) da p.toNat / 2 ^ i % 2 = (wo ^^^ wr) / 2 ^ i % 2 := fun i hi => div_low _ _ 64 i hi
  have hhigh : ∀ i, em (wo ^^^ wr) (co ^^^ cr) da p.toNat / 2 ^ (64 + i) = ((co ^^^ cr) + 256 * (da + 2 * p.toNat)) / 2 ^ i := fun i => div_high _ _ 64 he i
  obtain ⟨e, hee⟩ : ∃ e, wo ^^^ wr = e := ⟨_, rfl⟩
  obtain ⟨f, hff⟩ : ∃ f, co ^^^ cr = f := ⟨_, rfl⟩
  rw [hee] at he hw hlow hhigh ht ⊢
  rw [hff] at hf hw hhigh ht ⊢
  rw [hff] at hlow
  obtain ⟨E, hE⟩ : ∃ E, em e f da p.toNat = E := ⟨_, rfl⟩
  rw [hE] at hw hlow hhigh ⊢
  rw [← ht] at hw
  have ways := bits_ways E 74
  rw [hw] at ways
  refine ⟨fun h0 => ?_, fun h0 => ?_, fun h0 => ?_⟩
  · rcases ways with ⟨_, hx⟩ | ⟨h, _⟩ | ⟨h, _⟩ | ⟨h, _⟩ | h
    · rw [hx]
      refine ⟨rfl, ?_⟩
      have : e = 0 := Rw.wtK_nil 64 e (show wt e = 0 by omega) he
      rw [this] at hee
      unfold fx
      rw [if_neg (by decide)]
      exact xor_zero_eq hee
    all_goals omega
  · rcases ways with ⟨h, _⟩ | ⟨_, i, hi, hb1, hx⟩ | ⟨h, _⟩ | ⟨h, _⟩ | h
    · omega
    · rw [hx]
      -- where the bit stands
      have hi64 : 64 ≤ i → (f + 256 * (da + 2 * p.toNat)) / 2 ^ (i - 64) % 2 = 1 := fun h => by
        rw [← hhigh, show 64 + (i - 64) = i by omega]; exact hb1
      refine ⟨fun hda0 hp0 => ?_, fun hda1 => ?_, fun hp1 => ?_⟩
      · have hpt : p.toNat = 0 := by omega
        rw [hda0, hpt] at hi64
        by_cases h64 : i < 64
        · have hbe : e / 2 ^ i % 2 = 1 := by rw [← hlow i h64]; exact hb1
          have hne : wt e ≠ 0 := fun h => by
            have := Rw.wtK_nil 64 e h he
            rw [this] at hbe; simp at hbe
          have he2 := wt_one 64 e i he h64 hbe (show wt e = 1 by omega)
          obtain ⟨k1, k2⟩ := Hm.fixed_one i (by omega)
          refine ⟨k1, ?_⟩
          unfold fx
          rw [if_pos ⟨k1, by rw [k2]; omega⟩, k2, Int.toNat_natCast, ← he2, ← hee, Nat.xor_comm wo, ← Nat.xor_assoc, Nat.xor_self, Nat.zero_xor]
        · have h72 : i < 72 := by
            by_cases h : i < 72
            · exact h
            · have := hi64 (by omega)
              have hp8 : 2 ^ 8 ≤ 2 ^ (i - 64) := Nat.pow_le_pow_right (by omega) (by omega)
              rw [Nat.div_eq_of_lt (by omega)] at this
              omega
          have hbf := hi64 (by omega)
          have hne : wt f ≠ 0 := fun h => by
            have := Rw.wtK_nil 64 f h (Nat.lt_trans hf (by decide))
            rw [this] at hbf; simp at hbf
          have he0 : e = 0 := Rw.wtK_nil 64 e (show wt e = 0 by omega) he
          obtain ⟨k1, k2⟩ := Hm.fixed_one i h72
          refine ⟨k1, ?_⟩
          unfold fx
          rw [if_neg (by rw [k2]; omega)]
          exact xor_zero_eq (by rw [hee, he0])
      · have he0 : e = 0 := Rw.wtK_nil 64 e (show wt e = 0 by omega) he
        have hf0 : f = 0 := Rw.wtK_nil 64 f (show wt f = 0 by omega) (Nat.lt_trans hf (by decide))
        have hp0 : p.toNat = 0 := by omega
        have h64 : 64 ≤ i := by
          by_cases h : i < 64
          · have := hlow i h
            rw [hb1, he0] at this; simp at this
          · omega
        have := hi64 h64
        rw [hf0, hp0, hda1] at this
        have : i = 72 := by
          have h10 : i - 64 < 10 := by omega
          rcases (show i - 64 = 0 ∨ i - 64 = 1 ∨ i - 64 = 2 ∨ i - 64 = 3 ∨ i - 64 = 4 ∨ i - 64 = 5 ∨ i - 64 = 6 ∨ i - 64 = 7 ∨ i - 64 = 8 ∨ i - 64 = 9 by omega) with h | h | h | h | h | h | h | h | h | h <;> rw [h] at this <;> first | omega | (exact absurd this (by decide))
        rw [this]; exact Hm.kd_astray
      · have he0 : e = 0 := Rw.wtK_nil 64 e (show wt e = 0 by omega) he
        have hf0 : f = 0 := Rw.wtK_nil 64 f (show wt f = 0 by omega) (Nat.lt_trans hf (by decide))
        have hp0 : p.toNat = 1 := by omega
        have hda0 : da = 0 := by omega
        have h64 : 64 ≤ i := by
          by_cases h : i < 64
          · have := hlow i h
            rw [hb1, he0] at this; simp at this
          · omega
        have := hi64 h64
        rw [hf0, hp0, hda0] at this
        have : i = 73 := by
          rcases (show i - 64 = 0 ∨ i - 64 = 1 ∨ i - 64 = 2 ∨ i - 64 = 3 ∨ i - 64 = 4 ∨ i - 64 = 5 ∨ i - 64 = 6 ∨ i - 64 = 7 ∨ i - 64 = 8 ∨ i - 64 = 9 by omega) with h | h | h | h | h | h | h | h | h | h <;> rw [h] at this <;> first | omega | (exact absurd this (by decide))
        rw [this]; exact Hm.kd_poison
    all_goals omega
  · rcases ways with ⟨h, _⟩ | ⟨h, _⟩ | ⟨_, i, j, hi, hj, hne, hx⟩ | ⟨h, _⟩ | h
    · omega
    · omega
    · rw [hx]; exact Hm.kd_two i hi j hj hne
    all_goals omega
/-- two code words for addresses of one parity -/
theorem apart1 {wo wr co cr : Nat} {a p q : Int} (hp : p = 0 ∨ p = 1) (hq : q = 0 ∨ q = 1) (h1 : wo < 18446744073709551616) (h2 : wr < 18446744073709551616) (hco : co = syn wo 0 a p) (hcr : cr = syn wr 0 a q) :
    (p = q → (wo = wr ∨ 4 ≤ wt (wo ^^^ wr) + wt (co ^^^ cr))) ∧ (p ≠ q → 3 ≤ wt (wo ^^^ wr) + wt (co ^^^ cr)) := by
  have hc : co < 256 := by rw [hco]; exact Hm.syn_lt _ _ _ _ (by omega)
  have hcc : cr < 256 := by rw [hcr]; exact Hm.syn_lt _ _ _ _ (by omega)
  have he := Nat.xor_lt_two_pow (n := 64) h1 h2
  have hf := Nat.xor_lt_two_pow (n := 8) hc hcc
  obtain ⟨dp, hdp⟩ : ∃ dp : Nat, dp = if p = q then 0 else 1 := ⟨_, rfl⟩
  have hd2 : dp < 2 := by subst hdp; split <;> omega
  have hx0 : xs (em (wo ^^^ wr) (co ^^^ cr) 0 dp) 74 = 0 := by
    have hpq : (if dp = 1 then col 73 else 0) = ap p 73 ^^^ ap q 73 := by
      subst hdp
      rcases hp with rfl | rfl <;> rcases hq with rfl | rfl <;> decide +kernel
    rw [em_xs _ _ _ _ he hf (by omega) hd2, hpq, Hm.xs_xor, hco, hcr, if_neg (by omega), Nat.xor_zero]
    unfold syn
    rw [Nat.zero_xor, Nat.zero_xor]
    generalize xs wo 64 = u
    generalize xs wr 64 = v
    generalize ap a 72 = x
    generalize ap p 73 = y
    generalize ap q 73 = z
    rw [show u ^^^ v ^^^ (u ^^^ x ^^^ y ^^^ (v ^^^ x ^^^ z)) ^^^ (y ^^^ z) = (u ^^^ u) ^^^ ((v ^^^ v) ^^^ ((x ^^^ x) ^^^ ((y ^^^ y) ^^^ (z ^^^ z)))) from by ac_rfl]
    simp only [Nat.xor_self]
  have hw := em_wt _ _ 0 dp he hf (by omega) hd2
  have h4 : wtK 74 (em (wo ^^^ wr) (co ^^^ cr) 0 dp) = 0 ∨ 4 ≤ wtK 74 (em (wo ^^^ wr) (co ^^^ cr) 0 dp) := by
    rcases bits_ways (em (wo ^^^ wr) (co ^^^ cr) 0 dp) 74 with ⟨h, _⟩ | ⟨_, i, hi, _, hx⟩ | ⟨_, i, j, hi, hj, hne, hx⟩ | ⟨_, i, j, l, hi, hj, hl, hne, hx⟩ | h
    · exact .inl h
    · exfalso
      have := (Hm.col_all i hi).2.1
      rw [← hx, hx0] at this; omega
    · exfalso
      exact (Hm.two_lost i hi j hj hne).1 (by rw [← hx, hx0])
    · exfalso
      have h3 := (Hm.two_lost i hi j hj hne).2 l hl
      exact h3 (xor_zero_eq (by rw [← hx, hx0]))
    · exact .inr h
  rw [hw] at h4
  refine ⟨fun hpq => ?_, fun hpq => ?_⟩
  · have hdp0 : dp = 0 := by rw [hdp, if_pos hpq]
    rw [hdp0] at h4
    rcases h4 with h | h
    · left
      have : wo ^^^ wr = 0 := Rw.wtK_nil 64 _ (show wt (wo ^^^ wr) = 0 by omega) he
      exact (xor_zero_eq this).symm
    · right; omega
  · have hdp1 : dp = 1 := by rw [hdp, if_neg hpq]
    rw [hdp1] at h4
    omega
end Go.Proofs.YtdjknaafefnlcaaDoor.Co
