/-
  What is told of a line's own raw bytes, poisoned or not.
-/
import Derived.Test.YtoimbjbdkkohcaaGreatDoorM19
namespace Go.Proofs.YtoimbjbdkkohcaaGreatDoor
open Go.RowKit Go.Shelf
open Bm (wt)
open Po (El toE)
open Ln (wrd)

theorem mx_own (m : Int) (R : Nat → Int) (n k : Nat) : Rw.mx m R R n k = 0 := by
  have := Rw.mx_le m R R n k 0 fun w _ => by rw [Rw.sm_same m R R (n * w) n fun _ _ => rfl]; omega
  omega
theorem vir_flip (ix : Int) : oe (vir ix true 2 ^^^ vir ix false 2) = 128 := by
  have h : ∀ n : Nat, n < 128 → oe (toE ((n : Int) + 128) ^^^ toE (n : Int)) = 128 := by decide +kernel
  have e := h (ix % 8388608 / 65536).toNat (by omega)
  have e2 : (((ix % 8388608 / 65536).toNat : Nat) : Int) = ix % 8388608 / 65536 := by omega
  rw [e2] at e
  have v1 : vir ix true 2 = toE (ix % 8388608 / 65536 + 128) := rfl
  have v2 : vir ix false 2 = toE (ix % 8388608 / 65536 + 0) := rfl
  rw [v1, v2, Int.add_zero]; exact e
/-- a poisoned line's words are Poisoned -/
theorem word_poisoned {m : Int} {n k : Nat} (hm : Mw m n k) {F R : Nat → Int} {ix : Int} (hE : Enc m F ix true R) (w : Nat) (hw : w < k) : vm m R ix w = 2 := by
  have hR := hE.1
  rcases hm with ⟨rfl, rfl, rfl⟩ | ⟨rfl, rfl, rfl⟩
  · rcases hE.2 with ⟨_, h⟩ | ⟨h, _⟩ | ⟨h, _⟩
    · have hd := h.dw w hw
      have hc := h.cw w hw
      have h1 := Co.dw_lt hR w hw
      have h3 := Co.cw_lt hR w hw
      have W1 := Co.word1 (wo := Co.dw R w) (wr := Co.dw R w) (co := Co.cw R w) (cr := Co.cw R w) (par_bd ix) (par_bd ix) (bt_bd true) h1 h1 h3 (by rw [hc, hd]) 0 (by rw [if_pos rfl]) 1 (by rw [Nat.xor_self, Nat.xor_self]; rfl)
      have hk := (W1.2.1 rfl).2.2 rfl
      have hv : vm 1 R ix w = kB (Co.sB R (par ix) w) := by unfold vm; rw [if_pos rfl]; rfl
      rw [hv]
      exact (@kB_of (Co.sB R (par ix) w)).2.2.1 hk
    · omega
    · exact absurd rfl h
  · rcases hE.2 with ⟨h, _⟩ | ⟨_, h⟩ | ⟨_, h, _⟩
    · omega
    · have hl := Co.er_len hR hR w hw (vir ix true) (vir ix false)
      rw [Rw.sm_same 2 R R (36 * w) 36 fun _ _ => rfl] at hl
      have e0 : vir ix true 0 = vir ix false 0 := rfl
      have e1 : vir ix true 1 = vir ix false 1 := rfl
      have e2 : vir ix true 2 ≠ vir ix false 2 := fun e => by
        have := vir_flip ix
        rw [e, Po.xor_self'] at this
        exact absurd this (by decide)
      rw [e0, e1, Po.xor_self', Po.xor_self', if_neg (fun e => e2 (Po.xor_eq_zero e))] at hl
      have W2 := Co.word2 (Y := Co.rw R w) (H := vir ix false) (h.c w hw)
      have hk := ((W2.2.1 (by rw [hl]; rfl)).2 ⟨2, by omega, e2⟩).2.1 (vir_flip ix)
      have hv : vm 2 R ix w = Co.kC (Rm.sy (wd (Co.rw R w) (vir ix false))) := by unfold vm; rw [if_neg (by decide)]; rfl
      rw [hv]; exact hk
    · exact absurd rfl h
/-- a line's own raw bytes -/
theorem own_clean {m : Int} {n k : Nat} (hm : Mw m n k) {F R : Nat → Int} {ix : Int} (hF : Byts 64 F) (hE : Enc m F ix false R) : (∀ i, i < 64 → Dl m R ix i = F i) ∧ Dk m R ix = 0 ∧ Df m R ix = 0 := by
  have h := corrects hm hF hE hE.1 (by rw [mx_own]; omega) (un_same m ix)
  rw [mx_own] at h
  have hd := dk_top hm R ix
  refine ⟨h.1, h.2.1, ?_⟩
  have h0 := h.2.1
  rw [hd.1] at h0
  rw [hd.2, if_neg (by rw [h0]; decide)]
theorem own_poisoned {m : Int} {n k : Nat} (hm : Mw m n k) {F R : Nat → Int} {ix : Int} (hE : Enc m F ix true R) : (∀ i, i < 64 → Dl m R ix i = 0) ∧ Dk m R ix = 2 ∧ Df m R ix = 0 := by
  have hk := hm.pos.2.1
  have hv := word_poisoned hm hE
  have h1 := top_ge (vm m R ix) k 0 hk
  have h2 := top_le (vm m R ix) k 2 (by decide) fun w hw => by rw [hv w hw]; decide
  rw [hv 0 hk] at h1
  have hd := dk_top hm R ix
  have ht : top (vm m R ix) k = 2 := by omega
  obtain ⟨_, _, _, y⟩ := line_dead hm R ix 0 hk (by rw [hv 0 hk]; decide)
  refine ⟨fun i _ => y i, by rw [hd.1, ht], ?_⟩
  rw [hd.2, if_neg (by rw [ht]; decide)]
/-- no mode -/
theorem own_none {m : Int} (hm : ¬ (m = 1 ∨ m = 2)) {F R : Nat → Int} {ix : Int} {p : Bool} (hE : Enc m F ix p R) : (∀ i, i < 72 → R i = 0) ∧ (∀ i, i < 64 → Dl m R ix i = 0) ∧ Dk m R ix = 3 ∧ Df m R ix = 0 := by
  have h1 : ¬ m = 1 := fun e => hm (.inl e)
  have h2 : ¬ m = 2 := fun e => hm (.inr e)
  refine ⟨?_, fun i _ => ?_, ?_, ?_⟩
  · rcases hE.2 with ⟨h, _⟩ | ⟨h, _⟩ | ⟨_, _, h⟩
    · exact absurd h h1
    · exact absurd h h2
    · exact h
  · unfold Dl; rw [if_neg h1, if_neg h2]
  · unfold Dk; rw [if_neg h1, if_neg h2]
  · unfold Df; rw [if_neg h1, if_neg h2]
end Go.Proofs.YtoimbjbdkkohcaaGreatDoor
