/-
  Whose place four syndromes tell: the verdict as a function, and the document's Locate.
-/
import Derived.Test.YtdjknaafefnlcaaDoorRsW3
import Derived.Deep.DeepCutAuto
namespace Go.Proofs.YtdjknaafefnlcaaDoor
open Go.RowKit
open Gf (gI)
open Po (El mu pwr ev S)
open Rm (al sy At)

/-- the first place from i on, of n, whose syndromes they are; -1 if none -/
def plc (s : Nat → El) : Nat → Nat → Int
  | 0, _ => -1
  | n + 1, i => if At s i then i else plc s n (i + 1)
theorem plc_none (s : Nat → El) (n i : Nat) (h : ∀ j, i ≤ j → j < i + n → ¬ At s j) : plc s n i = -1 := by
  induction n generalizing i with
  | zero => rfl
  | succ n ih =>
    unfold plc
    rw [if_neg (h i (by omega) (by omega))]
    exact ih (i + 1) fun j h1 h2 => h j (by omega) (by omega)
theorem plc_some (s : Nat → El) (n i j : Nat) (h1 : i ≤ j) (h2 : j < i + n) (hj : At s j) (hb : ∀ l, i ≤ l → l < j → ¬ At s l) : plc s n i = j := by
  induction n generalizing i with
  | zero => omega
  | succ n ih =>
    unfold plc
    by_cases e : i = j
    · subst e; rw [if_pos hj]
    · rw [if_neg (hb i (by omega) (by omega))]
      exact ih (i + 1) (by omega) (by omega) fun l a b => hb l (by omega) b
theorem plc_lt (s : Nat → El) : ∀ n i, -1 ≤ plc s n i ∧ plc s n i < (i + n : Nat)
  | 0, i => by unfold plc; omega
  | n + 1, i => by
    unfold plc
    have := plc_lt s n (i + 1)
    split <;> omega
/-- no syndrome but 0 -/
abbrev Nought (s : Nat → El) : Prop := s 0 = 0 ∧ s 1 = 0 ∧ s 2 = 0 ∧ s 3 = 0
/-- the verdict: kind, place, value -/
def vk (s : Nat → El) : Int := if Nought s then 0 else if plc s 39 0 = -1 then 3 else if 35 < plc s 39 0 then 2 else 1
def vp (s : Nat → El) : Int := if Nought s then -1 else plc s 39 0
def vv (s : Nat → El) : El := if Nought s then 0 else if plc s 39 0 = -1 then 0 else s 0
/-- the ways of a verdict -/
theorem vways (s : Nat → El) : (Nought s ∧ vk s = 0 ∧ vp s = -1 ∧ vv s = 0) ∨ (¬ Nought s ∧ (∀ j, j < 39 → ¬ At s j) ∧ vk s = 3 ∧ vp s = -1 ∧ vv s = 0) ∨
    (¬ Nought s ∧ ∃ i : Nat, i < 39 ∧ At s i ∧ (∀ l, l < i → ¬ At s l) ∧ vk s = (if i < 36 then 1 else 2) ∧ vp s = (i : Int) ∧ vv s = s 0) := by
  unfold vk vp vv
  by_cases h0 : Nought s
  · exact .inl ⟨h0, by rw [if_pos h0], by rw [if_pos h0], by rw [if_pos h0]⟩
  · by_cases h1 : ∃ i, i < 39 ∧ At s i
    · obtain ⟨i, hi, ha, hm⟩ : ∃ i, i < 39 ∧ At s i ∧ ∀ l, l < i → ¬ At s l := by
        obtain ⟨i, hi, ha⟩ := h1
        exact ⟨i, hi, ha, fun l hl hal => by have := Rm.at_only (by omega) hi hal ha; omega⟩
      have hp := plc_some s 39 0 i (by omega) (by omega) ha (fun l _ hl => hm l hl)
      refine .inr (.inr ⟨h0, i, hi, ha, hm, ?_, by rw [if_neg h0, hp], by rw [if_neg h0, hp, if_neg (by omega)]⟩)
      rw [if_neg h0, hp, if_neg (by omega)]
      by_cases h36 : i < 36
      · rw [if_neg (by omega), if_pos h36]
      · rw [if_pos (by omega), if_neg h36]
    · have hn : ∀ j, j < 39 → ¬ At s j := fun j hj ha => h1 ⟨j, hj, ha⟩
      have hp := plc_none s 39 0 (fun j _ hj => hn j (by omega))
      exact .inr (.inl ⟨h0, hn, by rw [if_neg h0, hp]; rfl, by rw [if_neg h0, hp], by rw [if_neg h0, hp]; rfl⟩)

/-- while Locate works -/
structure LcS (B C : Nat) (s : Nat → El) (w W : World) : Prop where
  a : Arr W B 4 s
  c0 : W.cell? ⟨C, 0, none⟩ = some (.int .i64 0) ∧ W.frozen? ⟨C, 0, none⟩ = false
  c1 : W.cell? ⟨C, 1, none⟩ = some (.int .i64 0) ∧ W.frozen? ⟨C, 1, none⟩ = false
  c2 : W.cell? ⟨C, 2, none⟩ = some (.int .u8 0) ∧ W.frozen? ⟨C, 2, none⟩ = false
  below : Below B w W

theorem oe_ne0 {a : El} (h : a ≠ 0) : (oe a == 0) = false := by
  rw [oe_eq0]; exact decide_eq_false h
theorem oe_ne {a b : El} (h : a ≠ b) : (oe a == oe b) = false := by
  rw [oe_eq]; exact decide_eq_false h
theorem three_below {V w : World} {B C : Nat} (h : Below B w V) (hBC : B < C) (a b c : Value) : Below B w (((V.setCell ⟨C, 0, none⟩ a).setCell ⟨C, 1, none⟩ b).setCell ⟨C, 2, none⟩ c) :=
  below_put5 (Nat.le_of_lt hBC) [a, b, c] 0 h

end Go.Proofs.YtdjknaafefnlcaaDoor
