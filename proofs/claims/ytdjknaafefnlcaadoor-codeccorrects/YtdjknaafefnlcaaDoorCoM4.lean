/-
  What is told of a line of noughts, and of one whose bit 3 is turned; top verdicts.
-/
import Derived.Test.YtdjknaafefnlcaaDoorCoW9
namespace Go.Proofs.YtdjknaafefnlcaaDoor
open Go.RowKit Go.Shelf
open Bm (wt wtK)
open Po (El toE)
open Ln (val wrd)

theorem val_zero (n k : Nat) : val (fun _ => 0) n k = 0 := by
  induction n generalizing k with
  | zero => rfl
  | succ n ih =>
    show 0 + 256 * val (fun _ => 0) n (k + 1) = 0
    rw [ih]
theorem par_zero : par 0 = 0 := by decide +kernel
theorem bt_false : bt false = 0 := rfl
/-- the noughts of the mode 1 -/
theorem enc1_noughts {F R : Nat → Int} (hF : ∀ i, i < 64 → F i = 0) (h : Co.Enc1 F 0 0 R) : ∀ i, i < 72 → R i = 0 := by
  refine Co.Enc1.same h ⟨fun k hk j hj => (hF _ (by omega)).symm, fun k hk => ?_⟩
  have hw : wrd F k = 0 := by
    unfold wrd
    rw [Ln.val_congr _ (fun _ => 0) 8 (8 * k) fun j h1 h2 => by rw [hF j (by omega)]; rfl]
    exact val_zero 8 _
  rw [hw, show Hm.syn 0 0 0 0 = 0 from by decide +kernel]; rfl
/-- the noughts of the mode 2 -/
theorem enc2_noughts {F R : Nat → Int} {G : Nat → El} (hF : ∀ i, i < 64 → F i = 0) (hG : ∀ i, i < 3 → G i = 0) (h : Co.Enc2 F G R) : ∀ i, i < 72 → R i = 0 := by
  refine Co.Enc2.same h ⟨fun _ _ => ⟨Int.le_refl _, show (0 : Int) < 256 by decide⟩, fun k hk i hi => (hF _ (by omega)).symm, fun k hk j hj => ?_⟩
  have e : ∀ i, i < 39 → wd (Co.rw (fun _ => 0) k) G i = (fun _ => (0 : El)) i := fun i hi => by
    unfold wd
    by_cases h36 : i < 36
    · rw [if_pos h36]; rfl
    · rw [if_neg h36]; exact hG _ (by omega)
  have := congrFun (sy_congr e) j
  refine this.trans ?_
  obtain ⟨a0, a1, a2, a3⟩ := sy_zero
  rcases (show j = 0 ∨ j = 1 ∨ j = 2 ∨ j = 3 by omega) with rfl | rfl | rfl | rfl
  · exact a0
  · exact a1
  · exact a2
  · exact a3
theorem vir_zero : ∀ i, i < 3 → vir 0 false i = 0 := by
  intro i hi
  rcases (show i = 0 ∨ i = 1 ∨ i = 2 by omega) with rfl | rfl | rfl <;> decide +kernel
theorem enc_noughts {m : Int} {F R : Nat → Int} (hF : ∀ i, i < 64 → F i = 0) (h : Enc m F 0 false R) : ∀ i, i < 72 → R i = 0 := by
  rcases h.2 with ⟨_, h⟩ | ⟨_, h⟩ | ⟨_, _, h⟩
  · rw [par_zero, bt_false] at h
    exact enc1_noughts hF h
  · exact enc2_noughts hF vir_zero h
  · exact h
/-- a line of noughts with its bit 3 turned -/
theorem three_told {R : Nat → Int} (hR : ∀ i, i < 72 → R i = if i = 0 then 8 else 0) : Dk 1 R 0 = 1 ∧ Df 1 R 0 = 1 := by
  have hd0 : Co.dw R 0 = 8 := by
    unfold Co.dw
    rw [Ln.val_congr _ (fun i => if i = 0 then 8 else 0) 8 (9 * 0) fun j h1 h2 => by rw [hR j (by omega)]; split <;> rfl]
    decide +kernel
  have hd : ∀ k, 0 < k → k < 8 → Co.dw R k = 0 := fun k h0 hk => by
    unfold Co.dw
    rw [Ln.val_congr _ (fun _ => 0) 8 (9 * k) fun j h1 h2 => by rw [hR j (by omega), if_neg (by omega)]; rfl]
    exact val_zero 8 _
  have hc : ∀ k, k < 8 → Co.cw R k = 0 := fun k hk => by
    unfold Co.cw
    rw [hR _ (by omega), if_neg (by omega)]; rfl
  have hv0 : vB R 0 0 = 1 := by
    unfold vB Co.sB
    rw [hd0, hc 0 (by omega)]
    decide +kernel
  have hv : ∀ k, 0 < k → k < 8 → vB R 0 k = 0 := fun k h0 hk => by
    unfold vB Co.sB
    rw [hd k h0 hk, hc k hk]
    decide +kernel
  unfold Dk Df
  rw [if_pos rfl, if_pos rfl, par_zero]
  have ht : top (vB R 0) 8 = 1 := by
    simp only [top, hv0, hv 1 (by omega) (by omega), hv 2 (by omega) (by omega), hv 3 (by omega) (by omega), hv 4 (by omega) (by omega), hv 5 (by omega) (by omega), hv 6 (by omega) (by omega), hv 7 (by omega) (by omega)]
    decide
  have hn : cnt (vB R 0) 8 = 1 := by
    simp only [cnt, hv0, hv 1 (by omega) (by omega), hv 2 (by omega) (by omega), hv 3 (by omega) (by omega), hv 4 (by omega) (by omega), hv 5 (by omega) (by omega), hv 6 (by omega) (by omega), hv 7 (by omega) (by omega)]
    decide
  rw [ht, hn, if_pos rfl]
  exact ⟨rfl, rfl⟩
end Go.Proofs.YtdjknaafefnlcaaDoor
