/-
  A line that is read at another index.
-/
import Derived.Test.YtdjknaafefnlcaaDoorM18
namespace Go.Proofs.YtdjknaafefnlcaaDoor
open Go.RowKit Go.Shelf
open Bm (wt wtK)
open Po (El toE)
open Ln (val wrd)
open Rm (IsCode supp sy)

/-- where two indices' bytes are unlike -/
def ub (a b : Int) (j : Nat) : Nat := (vb a false j).toNat ^^^ (vb b false j).toNat
theorem ub_lt (a b : Int) (j : Nat) : ub a b j < 256 := by
  have h1 := vb_bd a false j
  have h2 := vb_bd b false j
  exact Nat.xor_lt_two_pow (n := 8) (by omega) (by omega)
theorem val_vb (a : Int) : val (fun i => (vb a false i).toNat) 3 0 = (a % 8388608).toNat := by
  show (vb a false 0).toNat + 256 * ((vb a false 1).toNat + 256 * ((vb a false 2).toNat + 256 * 0)) = _
  unfold vb
  simp
  omega
theorem odd_par (a b : Int) : (wt (ub a b 0) + wt (ub a b 1) + wt (ub a b 2)) % 2 = if par a = par b then 0 else 1 := by
  have h := Co.sm_val (vb a false) (vb b false) 0 3 (fun i _ => vb_bd a false (0 + i)) (fun i _ => vb_bd b false (0 + i))
  have e : Rw.sm 1 (vb a false) (vb b false) 0 3 = wt (ub a b 0) + wt (ub a b 1) + wt (ub a b 2) := by
    simp only [Rw.sm, Rw.dl, if_pos, ub, Nat.zero_add, Nat.add_zero]
  rw [e, val_vb, val_vb] at h
  rw [h]
  have x := Bm.wtK_xor (8 * 3) (a % 8388608).toNat (b % 8388608).toNat
  rw [Bm.wtK_wt _ (a % 8388608).toNat (by decide) (by omega), Bm.wtK_wt _ (b % 8388608).toNat (by decide) (by omega)] at x
  have pa : par a = ((wt (a % 8388608).toNat % 2 : Nat) : Int) := rfl
  have pb : par b = ((wt (b % 8388608).toNat % 2 : Nat) : Int) := rfl
  rw [pa, pb]
  clear h e pa pb
  generalize wt (a % 8388608).toNat = x1 at *
  generalize wt (b % 8388608).toNat = x2 at *
  generalize wtK (8 * 3) ((a % 8388608).toNat ^^^ (b % 8388608).toNat) = x3 at *
  generalize wtK (8 * 3) ((a % 8388608).toNat &&& (b % 8388608).toNat) = x4 at *
  split <;> omega
/-- not poisoned, of one index, read at another: never told as right -/
theorem strays {m : Int} {n k : Nat} (hm : Mw m n k) {F own : Nat → Int} {ix jx : Int} (hF : Byts 64 F) (hE : Enc m F ix false own) (ho : Byts 72 own)
    (h : (m = 1 ∧ par ix ≠ par jx) ∨ (m = 2 ∧ ¬ ∀ j, j < 3 → vb ix false j = vb jx false j)) : 2 ≤ Dk m own jx ∧ ∀ i, Dl m own jx i = 0 := by
  have hk := hm.pos.2.1
  have hs : Rw.sm m own own (n * 0) n = 0 := by
    have : ∀ n, Rw.sm m own own 0 n = 0 := fun n => by
      induction n with
      | zero => rfl
      | succ n ih => rw [Rw.sm, ih, Rw.dl_self]
    rw [Nat.mul_zero]; exact this n
  have hu : un m ix false jx = 1 ∨ (m = 2 ∧ (un m ix false jx = 2 ∨ un m ix false jx = 3)) := by
    unfold un
    rcases h with ⟨rfl, h⟩ | ⟨rfl, h⟩
    · rw [if_pos rfl, if_neg h]; exact .inl rfl
    · rw [if_neg (by decide)]
      have hx : ∀ j, vir ix false j ^^^ vir jx false j = 0 → vb ix false j = vb jx false j := fun j e => by
        have := congrArg oe (Po.xor_eq_zero e)
        rwa [oe_vir, oe_vir] at this
      have hne : ¬ (vir ix false 0 ^^^ vir jx false 0 = 0 ∧ vir ix false 1 ^^^ vir jx false 1 = 0 ∧ vir ix false 2 ^^^ vir jx false 2 = 0) := fun ⟨e0, e1, e2⟩ =>
        h fun j hj => by
          rcases (show j = 0 ∨ j = 1 ∨ j = 2 by omega) with rfl | rfl | rfl
          · exact hx 0 e0
          · exact hx 1 e1
          · exact hx 2 e2
      by_cases e0 : vir ix false 0 ^^^ vir jx false 0 = 0 <;> by_cases e1 : vir ix false 1 ^^^ vir jx false 1 = 0 <;> by_cases e2 : vir ix false 2 ^^^ vir jx false 2 = 0 <;> simp_all
  obtain ⟨_, b, c⟩ := tell (jx := jx) hm hF hE ho 0 hk
  rw [hs, Nat.zero_add] at b c
  have hv : 2 ≤ vm m own jx 0 := by
    rcases hu with e | ⟨e1, e | e⟩
    · exact (b e).2 (by omega)
    · rw [c (.inl e)]; decide
    · rw [c (.inr ⟨e1, e⟩)]; decide
  obtain ⟨x, _, _, y⟩ := line_dead hm own jx 0 hk hv
  exact ⟨x, y⟩
theorem strays1 {n k : Nat} {F : Nat → Int} {ix jx : Int} (hm : Mw 1 n k) (hF : Byts 64 F) (hp : par ix ≠ par jx) (own : Nat → Int) (hE : Enc 1 F ix false own) : 2 ≤ Dk 1 own jx ∧ ∀ i, Dl 1 own jx i = 0 :=
  strays hm hF hE hE.1 (Or.inl ⟨rfl, hp⟩)
theorem strays2 {n k : Nat} {F : Nat → Int} {ix jx : Int} (hm : Mw 2 n k) (hF : Byts 64 F) (hv : ¬ ∀ j, j < 3 → vb ix false j = vb jx false j) (own : Nat → Int) (hE : Enc 2 F ix false own) : 2 ≤ Dk 2 own jx ∧ ∀ i, Dl 2 own jx i = 0 :=
  strays hm hF hE hE.1 (Or.inr ⟨rfl, hv⟩)
end Go.Proofs.YtdjknaafefnlcaaDoor
