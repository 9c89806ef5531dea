/-
  How far apart two lines' raw bytes lie.
-/
import Derived.Test.YtdjknaafefnlcaaDoorM18
namespace Go.Proofs.YtdjknaafefnlcaaDoor
open Go.RowKit Go.Shelf
open Bm (wt wtK)
open Po (El toE)
open Ln (val wrd)
open Rm (IsCode supp sy)

theorem bt_same (p q : Bool) : bt p = bt q ↔ p = q := by cases p <;> cases q <;> simp [bt]
theorem vir_unlike (ix : Int) (p q : Bool) : (if vir ix p 0 ^^^ vir ix q 0 = 0 then 0 else 1) + (if vir ix p 1 ^^^ vir ix q 1 = 0 then 0 else 1) + (if vir ix p 2 ^^^ vir ix q 2 = 0 then 0 else 1) = if p = q then 0 else 1 := by
  have e0 : vir ix p 0 = vir ix q 0 := rfl
  have e1 : vir ix p 1 = vir ix q 1 := rfl
  rw [e0, e1, Po.xor_self', Po.xor_self', if_pos rfl, Nat.zero_add]
  by_cases h : p = q
  · subst h
    rw [Po.xor_self', if_pos rfl, if_pos rfl]
  · have hne : vir ix p 2 ≠ vir ix q 2 := fun e => by
      have := congrArg oe e
      rw [oe_vir, oe_vir] at this
      unfold vb at this
      cases p <;> cases q <;> simp at this h <;> omega
    rw [if_neg (fun e => hne (Po.xor_eq_zero e)), if_neg h]
theorem apart10 {m : Int} {n k : Nat} (hm : Mw m n k) {F G X Y : Nat → Int} {ix : Int} {p q : Bool} (hF : Byts 64 F) (hG : Byts 64 G) (hX : Enc m F ix p X) (hY : Enc m G ix q Y)
    (h : (∃ i, i < 64 ∧ F i ≠ G i) ∨ p ≠ q) : 3 + m - (if p = q then 0 else 1) ≤ (Rw.mx m X Y n k : Int) := by
  obtain ⟨d, hd, hd2⟩ : ∃ d : Int, (if p = q then 0 else 1) = d ∧ ((p = q ∧ d = 0) ∨ (p ≠ q ∧ d = 1)) := ⟨_, rfl, by by_cases e : p = q <;> simp [e]⟩
  rw [hd]
  rcases hm with ⟨rfl, rfl, rfl⟩ | ⟨rfl, rfl, rfl⟩
  · have a : Co.Enc1 F (par ix) (bt p) X := by
      rcases hX.2 with ⟨_, a⟩ | ⟨e, _⟩ | ⟨e, _⟩
      · exact a
      · omega
      · exact absurd rfl e
    have b : Co.Enc1 G (par ix) (bt q) Y := by
      rcases hY.2 with ⟨_, a⟩ | ⟨e, _⟩ | ⟨e, _⟩
      · exact a
      · omega
      · exact absurd rfl e
    have key : ∀ w, w < 8 → (wrd F w ≠ wrd G w ∨ p ≠ q) → 3 + 1 - d ≤ (Rw.sm 1 X Y (9 * w) 9 : Int) := fun w hw hne => by
      have h1 := Co.apart1 (wo := wrd F w) (wr := wrd G w) (a := par ix) (bt_bd p) (bt_bd q) (Ln.wrd_lt F w hF hw) (Ln.wrd_lt G w hG hw) rfl rfl
      rw [Co.sm_word hX.1 hY.1 w hw, a.dw w hw, b.dw w hw, a.cw w hw, b.cw w hw]
      rw [bt_same, show (bt p ≠ bt q) = (p ≠ q) from propext (not_congr (bt_same p q))] at h1
      generalize wt (wrd F w ^^^ wrd G w) = t1 at h1 ⊢
      generalize wt (Hm.syn (wrd F w) 0 (par ix) (bt p) ^^^ Hm.syn (wrd G w) 0 (par ix) (bt q)) = t2 at h1 ⊢
      rcases hd2 with ⟨e, f⟩ | ⟨e, f⟩
      · rcases h1.1 e with h2 | h2
        · rcases hne with h3 | h3
          · exact absurd h2 h3
          · exact absurd e h3
        · omega
      · have := h1.2 e
        omega
    have fin : ∀ w, w < 8 → (wrd F w ≠ wrd G w ∨ p ≠ q) → 3 + 1 - d ≤ (Rw.mx 1 X Y 9 8 : Int) := fun w hw hne => by
      have h1 := key w hw hne
      have h2 := Rw.mx_ge 1 X Y 9 8 w hw
      omega
    rcases h with ⟨i, hi, hne⟩ | hne
    · refine fin (i / 8) (by omega) (.inl fun e => hne ?_)
      have h1 := Ln.wrd_byte F (i / 8) (i % 8) hF (by omega) (Nat.mod_lt _ (by decide))
      have h2 := Ln.wrd_byte G (i / 8) (i % 8) hG (by omega) (Nat.mod_lt _ (by decide))
      rw [e] at h1
      rw [Nat.div_add_mod] at h1 h2
      exact h1.symm.trans h2
    · exact fin 0 (by omega) (.inr hne)
  · have a : Co.Enc2 F (vir ix p) X := by
      rcases hX.2 with ⟨e, _⟩ | ⟨_, a⟩ | ⟨_, e, _⟩
      · omega
      · exact a
      · exact absurd rfl e
    have b : Co.Enc2 G (vir ix q) Y := by
      rcases hY.2 with ⟨e, _⟩ | ⟨_, a⟩ | ⟨_, e, _⟩
      · omega
      · exact a
      · exact absurd rfl e
    have fin : ∀ w, w < 2 → (Rw.sm 2 X Y (36 * w) 36 ≠ 0 ∨ p ≠ q) → 3 + 2 - d ≤ (Rw.mx 2 X Y 36 2 : Int) := fun w hw hne => by
      have hl := Co.er_len hX.1 hY.1 w hw (vir ix p) (vir ix q)
      have h5 := Co.apart2 (a.c w hw) (b.c w hw)
      have hv := vir_unlike ix p q
      have h2 := Rw.mx_ge 2 X Y 36 2 w hw
      rw [hl] at h5
      generalize (if vir ix p 0 ^^^ vir ix q 0 = 0 then 0 else 1) = v0 at hv h5
      generalize (if vir ix p 1 ^^^ vir ix q 1 = 0 then 0 else 1) = v1 at hv h5
      generalize (if vir ix p 2 ^^^ vir ix q 2 = 0 then 0 else 1) = v2 at hv h5
      rcases hd2 with ⟨e, f⟩ | ⟨e, f⟩
      · rw [if_pos e] at hv
        rcases hne with h3 | h3
        · omega
        · exact absurd e h3
      · rw [if_neg e] at hv
        omega
    rcases h with ⟨i, hi, hne⟩ | hne
    · refine fin (i / 32) (by omega) (.inl fun e => hne ?_)
      have h0 := Rw.sm_zero 2 X Y (36 * (i / 32)) 36 (fun j hj => hX.1 _ (by omega)) (fun j hj => hY.1 _ (by omega)) e (4 + i % 32) (by omega)
      rw [a.d (i / 32) (by omega) (i % 32) (Nat.mod_lt _ (by decide)), b.d (i / 32) (by omega) (i % 32) (Nat.mod_lt _ (by decide)), Nat.div_add_mod] at h0
      exact h0
    · exact fin 0 (by omega) (.inr hne)
end Go.Proofs.YtdjknaafefnlcaaDoor
