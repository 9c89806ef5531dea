/-
  Layer 10's mathematics, mode 2, word by word: what is told of a word of 39 symbols that is unlike in up to three.
-/
import Derived.Test.YtdjknaafefnlcaaDoorCoM2
import Derived.Test.YtdjknaafefnlcaaDoorRsL2
namespace Go.Proofs.YtdjknaafefnlcaaDoor.Co
open Go Go.RowKit
open Po (El mu pwr ev toE)
open Rm (al sy At IsCode supp)

/-- the stored symbols of the word k -/
def rw (R : Nat → Int) (k i : Nat) : El := toE (R (36 * k + i))
/-- raw bytes are a line's, with these virtual symbols -/
structure Enc2 (F : Nat → Int) (G : Nat → El) (R : Nat → Int) : Prop where
  b : Bt 72 R
  d : ∀ k, k < 2 → ∀ i, i < 32 → R (36 * k + (4 + i)) = F (32 * k + i)
  c : ∀ k, k < 2 → IsCode (wd (rw R k) G)
/-- a word's syndromes, where it is decoded with the virtual symbols G -/
def sC (R : Nat → Int) (G : Nat → El) (k : Nat) : Nat → El := sy (wd (rw R k) G)
/-- what is unlike -/
def er (X Y G H : Nat → El) (i : Nat) : El := wd X G i ^^^ wd Y H i
theorem rw_inj {X R : Nat → Int} (hX : Bt 72 X) (hR : Bt 72 R) (k i : Nat) (hk : k < 2) (hi : i < 36) (h : rw X k i = rw R k i) : X (36 * k + i) = R (36 * k + i) := by
  have h1 := hX (36 * k + i) (by omega)
  have h2 := hR (36 * k + i) (by omega)
  exact Po.toE_inj h1.1 h1.2 h2.1 h2.2 h
theorem supp_congr (n : Nat) (W U : Nat → El) (h : ∀ i, i < n → W i = U i) : supp n W = supp n U := by
  induction n with
  | zero => rfl
  | succ n ih =>
    have e := ih fun i hi => h i (by omega)
    by_cases h0 : W n = 0
    · rw [Rm.supp_no n W h0, Rm.supp_no n U (by rw [← h n (by omega)]; exact h0), e]
    · rw [Rm.supp_yes n W h0, Rm.supp_yes n U (by rw [← h n (by omega)]; exact h0), e]
theorem supp_le (n : Nat) (W : Nat → El) : (supp n W).length ≤ (supp (n + 1) W).length ∧ (supp (n + 1) W).length ≤ (supp n W).length + 1 := by
  by_cases h : W n = 0
  · rw [Rm.supp_no n W h]; omega
  · rw [Rm.supp_yes n W h, List.length_append]; simp
theorem supp_one (n : Nat) (W : Nat → El) : (supp (n + 1) W).length = (supp n W).length + if W n = 0 then 0 else 1 := by
  by_cases h : W n = 0
  · rw [Rm.supp_no n W h, if_pos h]; omega
  · rw [Rm.supp_yes n W h, if_neg h, List.length_append]; rfl
/-- how many stored symbols are unlike -/
theorem sm_symbols {X R : Nat → Int} (hX : Bt 72 X) (hR : Bt 72 R) (k : Nat) (hk : k < 2) : ∀ n, n ≤ 36 → Rw.sm 2 X R (36 * k) n = (supp n fun i => rw X k i ^^^ rw R k i).length
  | 0, _ => rfl
  | n + 1, hn => by
    rw [Rw.sm, supp_one, sm_symbols hX hR k hk n (by omega)]
    congr 1
    unfold Rw.dl
    rw [if_neg (by decide)]
    by_cases h : X (36 * k + n) = R (36 * k + n)
    · rw [if_pos h, if_pos (by show toE _ ^^^ toE _ = 0; rw [h, Po.xor_self'])]
    · rw [if_neg h, if_neg (fun e => h (rw_inj hX hR k n hk (by omega) (Po.xor_eq_zero e)))]
/-- all 39 -/
theorem er_len {X R : Nat → Int} (hX : Bt 72 X) (hR : Bt 72 R) (k : Nat) (hk : k < 2) (G H : Nat → El) :
    (supp 39 (er (rw X k) (rw R k) G H)).length = Rw.sm 2 X R (36 * k) 36 + (if G 0 ^^^ H 0 = 0 then 0 else 1) + (if G 1 ^^^ H 1 = 0 then 0 else 1) + (if G 2 ^^^ H 2 = 0 then 0 else 1) := by
  rw [supp_one 38, supp_one 37, supp_one 36, sm_symbols hX hR k hk 36 (by omega), supp_congr 36 (er (rw X k) (rw R k) G H) (fun i => rw X k i ^^^ rw R k i) fun i hi => by
    unfold er wd; rw [if_pos hi, if_pos hi]]
  rfl
/-- a word's verdict -/
def kC (s : Nat → El) : Int := if vk s = 0 then 0 else if vk s = 1 then 1 else if vk s = 2 ∧ vp s = 38 ∧ oe (vv s) = 128 then 2 else 3
theorem sy_er {X Y G H : Nat → El} (hc : IsCode (wd X G)) : ∀ j, j < 4 → sy (wd Y H) j = sy (er X Y G H) j := fun j hj => by
  have h : sy (er X Y G H) j = sy (wd X G) j ^^^ sy (wd Y H) j := by
    have := sy_xor (wd X G) (wd Y H)
    exact congrFun this j
  rw [h, show sy (wd X G) j = 0 from hc j hj, Po.z0]
theorem supp_zero {W : Nat → El} {n : Nat} (h : (supp n W).length = 0) (i : Nat) (hi : i < n) : W i = 0 := by
  by_cases h0 : W i = 0
  · exact h0
  · have hm := (Rm.mem_supp n W i).2 ⟨hi, h0⟩
    rw [List.eq_nil_of_length_eq_zero h] at hm
    cases hm
theorem supp_single {W : Nat → El} {n : Nat} (h : (supp n W).length = 1) : ∃ q, q < n ∧ W q ≠ 0 ∧ ∀ i, i < n → i ≠ q → W i = 0 := by
  obtain ⟨q, hq⟩ : ∃ q, supp n W = [q] := by
    rcases he : supp n W with _ | ⟨q, _ | ⟨r, t⟩⟩ <;> rw [he] at h <;> simp at h
    exact ⟨q, rfl⟩
  have hm := (Rm.mem_supp n W q).1 (by rw [hq]; simp)
  refine ⟨q, hm.1, hm.2, fun i hi hne => ?_⟩
  by_cases h0 : W i = 0
  · exact h0
  · have := (Rm.mem_supp n W i).2 ⟨hi, h0⟩
    rw [hq] at this
    exact absurd (List.mem_singleton.1 this) hne
/-- what is told of a word that is unlike a code word in t symbols -/
theorem word2 {X Y G H : Nat → El} (hc : IsCode (wd X G)) :
    ((supp 39 (er X Y G H)).length = 0 → kC (sy (wd Y H)) = 0 ∧ ∀ i, i < 36 → mnd Y (sy (wd Y H)) i = X i) ∧
    ((supp 39 (er X Y G H)).length = 1 → ((∀ i, i < 3 → G i = H i) → kC (sy (wd Y H)) = 1 ∧ ∀ i, i < 36 → mnd Y (sy (wd Y H)) i = X i) ∧
      ((∃ i, i < 3 ∧ G i ≠ H i) → (kC (sy (wd Y H)) = 2 ∨ kC (sy (wd Y H)) = 3) ∧ (oe (G 2 ^^^ H 2) = 128 → kC (sy (wd Y H)) = 2) ∧ (oe (G 2 ^^^ H 2) ≠ 128 → kC (sy (wd Y H)) = 3))) ∧
    (2 ≤ (supp 39 (er X Y G H)).length → (supp 39 (er X Y G H)).length ≤ 3 → kC (sy (wd Y H)) = 3) := by
  have hs := sy_er (Y := Y) (H := H) hc
  have hv := v_congr hs
  have hstored : ∀ i, i < 36 → er X Y G H i = X i ^^^ Y i := fun i hi => by unfold er wd; rw [if_pos hi, if_pos hi]
  have hvirt : ∀ i, i < 3 → er X Y G H (36 + i) = G i ^^^ H i := fun i hi => by
    unfold er wd; rw [if_neg (by omega), if_neg (by omega), show 36 + i - 36 = i by omega]
  have hk : kC (sy (wd Y H)) = kC (sy (er X Y G H)) := by unfold kC; rw [hv.1, hv.2.1, hv.2.2]
  have hm : ∀ i, mnd Y (sy (wd Y H)) i = mnd Y (sy (er X Y G H)) i := mnd_congr Y hs
  rw [hk]
  refine ⟨fun h0 => ?_, fun h1 => ?_, fun h2 h3 => ?_⟩
  · have hz := supp_zero h0
    have hn : Nought (sy (er X Y G H)) := by rw [sy_congr (U := fun _ => 0) hz]; exact sy_zero
    have hv0 := vk_clean hn
    refine ⟨by unfold kC; rw [if_pos hv0], fun i hi => ?_⟩
    rw [hm]
    unfold mnd
    rw [hv0, if_neg (fun h => by omega)]
    have := hz i (by omega)
    rw [hstored i hi] at this
    exact (Po.xor_eq_zero this).symm
  · obtain ⟨q, hq, hne, hz⟩ := supp_single h1
    have he : ∀ i, i < 39 → er X Y G H i = Rm.one' q (er X Y G H q) i := fun i hi => by
      unfold Rm.one'
      by_cases e : i = q
      · rw [if_pos e, e]
      · rw [if_neg e]; exact hz i hi e
    have hat := Rm.sy_one q (er X Y G H q) hq hne
    have h0 := Rm.sy_one0 q (er X Y G H q) hq
    rw [← sy_congr he] at hat h0
    obtain ⟨v1, v2, v3⟩ := v_at hq hat
    rw [h0] at v3
    refine ⟨fun hGH => ?_, fun ⟨i, hi, hne2⟩ => ?_⟩
    · have hq36 : q < 36 := by
        by_cases h : q < 36
        · exact h
        · exfalso
          have := hvirt (q - 36) (by omega)
          rw [show 36 + (q - 36) = q by omega, hGH (q - 36) (by omega), Po.xor_self'] at this
          exact hne this
      rw [if_pos hq36] at v1
      refine ⟨by unfold kC; rw [v1]; rfl, fun i hi => ?_⟩
      rw [hm]
      unfold mnd
      rw [v1, v2, v3]
      by_cases e : i = q
      · rw [if_pos ⟨rfl, by rw [e]⟩, e, hstored q hq36, BitVec.xor_comm (X q), ← BitVec.xor_assoc, Po.xor_self', Po.z0]
      · rw [if_neg (fun h => e (by omega))]
        have := hz i (by omega) e
        rw [hstored i hi] at this
        exact (Po.xor_eq_zero this).symm
    · have hq2 : q = 36 + i := by
        by_cases e : q = 36 + i
        · exact e
        · exfalso
          have := hz (36 + i) (by omega) (fun h => e h.symm)
          rw [hvirt i hi] at this
          exact hne2 (Po.xor_eq_zero this)
      rw [if_neg (by omega)] at v1
      have hkc : kC (sy (er X Y G H)) = if (q : Int) = 38 ∧ oe (er X Y G H q) = 128 then 2 else 3 := by
        unfold kC
        rw [v1, v2, v3, if_neg (by decide), if_neg (by decide)]
        by_cases h : (q : Int) = 38 ∧ oe (er X Y G H q) = 128
        · rw [if_pos h, if_pos ⟨rfl, h.1, h.2⟩]
        · rw [if_neg h, if_neg (fun h' => h ⟨h'.2.1, h'.2.2⟩)]
      rw [hkc]
      refine ⟨by split <;> simp, fun h128 => ?_, fun h128 => ?_⟩
      · have hi2 : i = 2 := by
          by_cases e : i = 2
          · exact e
          · exfalso
            have := hz 38 (by omega) (by omega)
            rw [hvirt 2 (by omega)] at this
            rw [this] at h128
            exact absurd h128 (by decide)
        rw [hq2, hi2, hvirt 2 (by omega), if_pos ⟨rfl, h128⟩]
      · rw [if_neg]
        rintro ⟨h1, h2⟩
        have hi2 : i = 2 := by omega
        rw [hq2, hi2, hvirt 2 (by omega)] at h2
        exact h128 h2
  · obtain ⟨n1, n2⟩ := Rm.two_three _ h2 h3
    have hnn : ¬ Nought (sy (er X Y G H)) := fun hn => n1 fun j hj => by
      obtain ⟨a0, a1, a2, a3⟩ := hn
      rcases (show j = 0 ∨ j = 1 ∨ j = 2 ∨ j = 3 by omega) with rfl | rfl | rfl | rfl
      · exact a0
      · exact a1
      · exact a2
      · exact a3
    have hv3 : vk (sy (er X Y G H)) = 3 := by
      unfold vk
      rw [if_neg hnn, if_pos (plc_none _ 39 0 fun j _ hj => n2 j (by omega))]
    unfold kC
    rw [hv3]; rfl
theorem Enc2.same {F R R' : Nat → Int} {G : Nat → El} (h : Enc2 F G R) (h' : Enc2 F G R') : ∀ i, i < 72 → R i = R' i := by
  intro i hi
  obtain ⟨k, hk⟩ : ∃ k, k = i / 36 := ⟨_, rfl⟩
  have hk2 : k < 2 := by omega
  have hcode := Rm.checks_only (h.c k hk2) (h'.c k hk2) fun j h4 h39 => by
    unfold wd
    by_cases h36 : j < 36
    · rw [if_pos h36, if_pos h36]
      have h1 := h.d k hk2 (j - 4) (by omega)
      have h2 := h'.d k hk2 (j - 4) (by omega)
      rw [show 4 + (j - 4) = j by omega] at h1 h2
      unfold rw
      rw [h1, h2]
    · rw [if_neg h36, if_neg h36]
  have := hcode (i % 36) (by omega)
  unfold wd at this
  rw [if_pos (by omega), if_pos (by omega)] at this
  have h3 := rw_inj h.b h'.b k (i % 36) hk2 (by omega) this
  rwa [show 36 * k + i % 36 = i by omega] at h3
/-- two code words with the same virtual symbols, or with one unlike -/
theorem apart2 {X Y G H : Nat → El} (hc : IsCode (wd X G)) (hd : IsCode (wd Y H)) : (supp 39 (er X Y G H)).length = 0 ∨ 5 ≤ (supp 39 (er X Y G H)).length := by
  by_cases h : (supp 39 (er X Y G H)).length ≤ 4
  · left
    have hz := Rm.few _ (hc.xor hd) h
    have := Rm.supp_sub (er X Y G H) [] 39 (fun i hi hne => absurd (hz i hi) hne)
    simpa using this
  · right; omega
end Go.Proofs.YtdjknaafefnlcaaDoor.Co
