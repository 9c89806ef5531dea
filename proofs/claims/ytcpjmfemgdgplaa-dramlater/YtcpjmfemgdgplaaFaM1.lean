/-
  What a fault changes: bytes of the chip that it covers alone; one bit at most, if it is narrow; one byte of a word at most in mode 2.
-/
import Derived.Test.YtcpjmfemgdgplaaFaW7
import Derived.Test.YtcpjmfemgdgplaaFaW9
import Derived.Test.YtcpjmfemgdgplaaRwW3
namespace Go.Proofs.Ytcpjmfemgdgplaa
open Go.RowKit

theorem frc_only (F : Nat → Int) (i x : Int) (j : Nat) (h : frc F i x j ≠ F j) : 0 ≤ i ∧ i < 576 ∧ j = i.toNat / 8 := by
  unfold frc at h
  by_cases hi : 0 ≤ i ∧ i < 576
  · rw [if_pos hi] at h
    unfold frR at h
    by_cases e : j = i.toNat / 8
    · exact ⟨hi.1, hi.2, e⟩
    · rw [if_neg e] at h; exact absurd rfl h
  · rw [if_neg hi] at h; exact absurd rfl h
theorem chp_only (n : Nat) (c : Int) (F : Nat → Int) (y : Int) (j : Nat) (h : Rw.chp n c F y j ≠ F j) : 0 < n ∧ ((j % n : Nat) : Int) = c := by
  unfold Rw.chp at h
  split at h
  · assumption
  · exact absurd rfl h
theorem apF_same {n k p q u v c i x p' q' u' v' : Int} {F : Nat → Int} {j : Nat} (h : apF n k p q u v c i x p' q' u' v' F j ≠ F j) : (k = 2 ∧ 0 ≤ i ∧ i < 576 ∧ j = i.toNat / 8) ∨ (3 ≤ k ∧ k ≤ 5 ∧ 0 < n.toNat ∧ ((j % n.toNat : Nat) : Int) = c) := by
  unfold apF at h
  split at h
  · rename_i hl
    have hk := of_decide_eq_true hl.1
    split at h
    · rename_i h2
      exact .inl ⟨h2, frc_only F i x j h⟩
    · have := chp_only _ _ _ _ _ h
      exact .inr ⟨by omega, by omega, this⟩
  · exact absurd rfl h
/-- what is read otherwise is the covered chip's -/
theorem apF_cv {n : Int} (hn : n = 9 ∨ n = 36) {k p q u v c i x p' q' u' v' : Int} {F : Nat → Int} {j : Nat} (h : apF n k p q u v c i x p' q' u' v' F j ≠ F j) : (j : Int) % n = cv n k c i := by
  unfold cv
  rcases apF_same h with ⟨rfl, h1, h2, h3⟩ | ⟨h1, h2, h3, h4⟩
  · rw [if_pos (.inr rfl), if_pos (by omega)]
    subst h3
    rcases hn with rfl | rfl <;> omega
  · rcases hn with rfl | rfl
    · have e : (9 : Int).toNat = 9 := rfl
      rw [e] at h4
      rw [if_neg (by omega), if_pos (by omega), if_pos (by omega)]
      omega
    · have e : (36 : Int).toNat = 36 := rfl
      rw [e] at h4
      rw [if_neg (by omega), if_pos (by omega), if_pos (by omega)]
      omega
theorem fc_dl (x : Nat) (hx : x < 256) (r : Nat) (hr : r < 8) (v : Nat) (hv : v < 2) : Rw.dl 1 ((Rw.fc x r v : Nat) : Int) (x : Int) ≤ 1 := by
  have h1 := Rw.fc_flip x hx r hr
  have h2 := Rw.fc_stay x hx r hr
  rcases (show v = x / 2 ^ r % 2 ∨ v = 1 - x / 2 ^ r % 2 by omega) with e | e
  · rw [e, ← h2, Rw.dl_self]; omega
  · rw [e, ← h1, Rw.dl_flip 1 x r hx hr]; omega
/-- a narrow fault changes one bit at most -/
theorem apF_bit (n k p q u v c i x p' q' u' v' : Int) (F : Nat → Int) (hF : Byts 72 F) (hk : k = 1 ∨ k = 2) : ex 1 9 8 (apF n k p q u v c i x p' q' u' v' F) F ≤ 1 := by
  by_cases hi : 0 ≤ i ∧ i < 576
  · have h := Rw.mx_one 1 (apF n k p q u v c i x p' q' u' v' F) F 9 8 (i.toNat / 8) (by omega) (by omega) (fun y _ hy => by
      by_cases e : apF n k p q u v c i x p' q' u' v' F y = F y
      · exact e
      · rcases apF_same e with h | h <;> omega)
    unfold ex
    show Rw.mx 1 (apF n k p q u v c i x p' q' u' v' F) F 9 8 ≤ 1
    rw [h]
    have hb := hF (i.toNat / 8) (by omega)
    unfold apF
    split
    · rw [if_pos (by rename_i hl; have := of_decide_eq_true hl.1; omega)]
      unfold frc
      rw [if_pos hi]
      unfold frR
      rw [if_pos rfl]
      have := fc_dl (F (i.toNat / 8)).toNat (by omega) (i.toNat % 8) (by omega) (x % 2).toNat (by omega)
      rwa [show (((F (i.toNat / 8)).toNat : Nat) : Int) = F (i.toNat / 8) by omega] at this
    · rw [Rw.dl_self]; omega
  · have h : Rw.mx 1 (apF n k p q u v c i x p' q' u' v' F) F 9 8 = 0 := (Rw.mx_zero 1 (apF n k p q u v c i x p' q' u' v' F) F 9 8 (by omega) (fun y hy => apF_byt _ _ _ _ _ _ _ _ _ _ _ _ _ F hF y (by omega)) (fun y hy => hF y (by omega))).2 fun y _ => by
      by_cases e : apF n k p q u v c i x p' q' u' v' F y = F y
      · exact e
      · rcases apF_same e with h | h <;> omega
    unfold ex
    show Rw.mx 1 (apF n k p q u v c i x p' q' u' v' F) F 9 8 ≤ 1
    rw [h]; omega
/-- in mode 2 a fault changes one byte of a word at most -/
theorem apF_byte (k p q u v c i x p' q' u' v' : Int) (F : Nat → Int) (hF : Byts 72 F) : ex 2 36 2 (apF 36 k p q u v c i x p' q' u' v' F) F ≤ 1 := by
  unfold ex
  show Rw.mx 2 (apF 36 k p q u v c i x p' q' u' v' F) F 36 2 ≤ 1
  have hG := apF_byt 36 k p q u v c i x p' q' u' v' F hF
  refine Rw.mx_col 2 _ F 36 2 ((cv 36 k c i).toNat % 36) 1 (by omega) (fun y hy hne => ?_) (fun y hy => (Rw.dl_le 2 _ _ (hG y (by omega)) (hF y (by omega))).2 (by omega))
  by_cases e : apF 36 k p q u v c i x p' q' u' v' F y = F y
  · exact e
  · have := apF_cv (n := 36) (.inr rfl) e
    omega
end Go.Proofs.Ytcpjmfemgdgplaa
