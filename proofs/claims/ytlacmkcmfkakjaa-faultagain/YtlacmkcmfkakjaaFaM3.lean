/-
  FaultAgain.
-/
import Derived.Test.YtlacmkcmfkakjaaFaW8
import Derived.Test.YtlacmkcmfkakjaaFaW10
import Derived.Test.YtlacmkcmfkakjaaFaM1
namespace Go.Proofs.Ytlacmkcmfkakjaa
open Go.RowKit Go.Shelf
attribute [local go_sem] Oper.semAt_some

theorem fc_again : ∀ x < 256, ∀ r < 8, ∀ v < 2, Rw.fc (Rw.fc x r v) r v = Rw.fc x r v := by decide +kernel
theorem frc_again (F : Nat → Int) (hF : Byts 72 F) (i x : Int) (j : Nat) (hj : j < 72) : frc (frc F i x) i x j = frc F i x j := by
  unfold frc
  by_cases hi : 0 ≤ i ∧ i < 576
  · rw [if_pos hi, if_pos hi]
    unfold frR
    by_cases e : j = i.toNat / 8
    · have hb := hF j hj
      have h2 := fc_again (F j).toNat (by omega) (i.toNat % 8) (by omega) (x % 2).toNat (by omega)
      rw [if_pos e, if_pos e]
      rw [Int.toNat_natCast, h2]
    · rw [if_neg e, if_neg e]
  · rw [if_neg hi, if_neg hi]
theorem chp_again (n : Nat) (c : Int) (F : Nat → Int) (y : Int) (j : Nat) : Rw.chp n c (Rw.chp n c F y) y j = Rw.chp n c F y j := by
  unfold Rw.chp
  split <;> rfl
/-- applied again it changes nothing more -/
theorem apF_again (n k p q u v c i x p' q' u' v' : Int) (F : Nat → Int) (hF : Byts 72 F) (j : Nat) (hj : j < 72) : apF n k p q u v c i x p' q' u' v' (apF n k p q u v c i x p' q' u' v' F) j = apF n k p q u v c i x p' q' u' v' F j := by
  unfold apF
  split
  · split
    · exact frc_again F hF i x j hj
    · exact chp_again _ c F _ j
  · rfl
/-- what is read of a byte hangs on that byte alone -/
theorem apF_local (n k p q u v c i x p' q' u' v' : Int) (F G : Nat → Int) (j : Nat) (h : F j = G j) : apF n k p q u v c i x p' q' u' v' F j = apF n k p q u v c i x p' q' u' v' G j := by
  unfold apF
  split
  · split
    · unfold frc
      split
      · unfold frR
        split
        · rw [h]
        · exact h
      · exact h
    · unfold Rw.chp
      split
      · rfl
      · exact h
  · exact h
/-- of two that cover unlike chips the order plays no part -/
theorem apF_swap {n : Int} (hn : n = 9 ∨ n = 36) (k p q u v c i x k2 p2 q2 u2 v2 c2 i2 x2 : Int) (p' q' u' v' : Int) (F : Nat → Int) (h : cv n k c i ≠ cv n k2 c2 i2) (j : Nat) :
    apF n k2 p2 q2 u2 v2 c2 i2 x2 p' q' u' v' (apF n k p q u v c i x p' q' u' v' F) j = apF n k p q u v c i x p' q' u' v' (apF n k2 p2 q2 u2 v2 c2 i2 x2 p' q' u' v' F) j := by
  by_cases e : apF n k p q u v c i x p' q' u' v' F j = F j
  · rw [apF_local n k2 p2 q2 u2 v2 c2 i2 x2 p' q' u' v' _ F j e]
    by_cases e2 : apF n k2 p2 q2 u2 v2 c2 i2 x2 p' q' u' v' F j = F j
    · rw [apF_local n k p q u v c i x p' q' u' v' _ F j e2, e, e2]
    · by_cases e3 : apF n k p q u v c i x p' q' u' v' (apF n k2 p2 q2 u2 v2 c2 i2 x2 p' q' u' v' F) j = apF n k2 p2 q2 u2 v2 c2 i2 x2 p' q' u' v' F j
      · exact e3.symm
      · have h1 := apF_cv hn e2
        have h2 := apF_cv hn e3
        exact absurd (h2.symm.trans h1) h
  · have h1 := apF_cv hn e
    have s1 : apF n k2 p2 q2 u2 v2 c2 i2 x2 p' q' u' v' (apF n k p q u v c i x p' q' u' v' F) j = apF n k p q u v c i x p' q' u' v' F j := by
      by_cases e4 : apF n k2 p2 q2 u2 v2 c2 i2 x2 p' q' u' v' (apF n k p q u v c i x p' q' u' v' F) j = apF n k p q u v c i x p' q' u' v' F j
      · exact e4
      · exact absurd (h1.symm.trans (apF_cv hn e4)) h
    have s2 : apF n k2 p2 q2 u2 v2 c2 i2 x2 p' q' u' v' F j = F j := by
      by_cases e4 : apF n k2 p2 q2 u2 v2 c2 i2 x2 p' q' u' v' F j = F j
      · exact e4
      · exact absurd (h1.symm.trans (apF_cv hn e4)) h
    rw [s1, apF_local n k p q u v c i x p' q' u' v' _ F j s2]
/-- two faults in a row -/
def two8 (f g : Nat → Int) (y : Nat) : Int := if y < 8 then f y else g (y - 8)
def twoZ (f g : Nat → Int) (i j : Nat) : Int := if i = 0 then f j else g j
theorem two_fs {W : World} {K : Nat} {f g : Nat → Int} (h : Bk .i64 W K 16 (two8 f g)) (hf : ∀ j, j < 8 → (Lit.int .i64 (f j)).wf = true) (hg : ∀ j, j < 8 → (Lit.int .i64 (g j)).wf = true) : Fs W (some ⟨K, 0, none⟩) 2 2 (twoZ f g) :=
  ⟨Nat.le_refl _, by decide, fun _ => ⟨K, 0, rfl, h.lt, fun i hi j hj => by
    rw [Nat.zero_add, h.cell (i * 8 + j) (by omega)]
    unfold two8 twoZ
    rcases (show i = 0 ∨ i = 1 by omega) with rfl | rfl
    · rw [if_pos (by omega), if_pos rfl, Nat.zero_mul, Nat.zero_add]
    · rw [if_neg (by omega), if_neg (by omega), show 1 * 8 + j - 8 = j by omega]⟩, fun i hi j hj => by
    unfold twoZ
    split
    · exact hf j hj
    · exact hg j hj, fun e => by cases e⟩
theorem wp_build2 {o : Oper} {a : Act} {w : World} {K : Act → World → Prop} {Q : Exit → Act → World → Prop} (k p q u v c i x k2 p2 q2 u2 v2 c2 i2 x2 : Int) (n1 n2 : Nat) (ho : o.op = .buildSlice 39 2 #[(0, .tmp n1), (1, .tmp n2)])
    (hx : a.tmps[n1]?.getD undef = .agg #[.int .i64 k, .int .i64 p, .int .i64 q, .int .i64 u, .int .i64 v, .int .i64 c, .int .i64 i, .int .i64 x]) (hy : a.tmps[n2]?.getD undef = .agg #[.int .i64 k2, .int .i64 p2, .int .i64 q2, .int .i64 u2, .int .i64 v2, .int .i64 c2, .int .i64 i2, .int .i64 x2])
    (h : K (a.put o.dst (.slice (some ⟨w.heap.size, 0, none⟩) 2 2)) (w.alloc (.cells #[.int .i64 k, .int .i64 p, .int .i64 q, .int .i64 u, .int .i64 v, .int .i64 c, .int .i64 i, .int .i64 x, .int .i64 k2, .int .i64 p2, .int .i64 q2, .int .i64 u2, .int .i64 v2, .int .i64 c2, .int .i64 i2, .int .i64 x2] 25))) : Oper.wp Try.prog o a w K Q := by
  simp [Oper.wp, execOp, ho, hx, hy, go_sem, Oper.upon]
  exact h
theorem two_new (W : World) (k p q u v c i x k2 p2 q2 u2 v2 c2 i2 x2 : Int) (t : TypeId) : Bk .i64 (W.alloc (.cells #[.int .i64 k, .int .i64 p, .int .i64 q, .int .i64 u, .int .i64 v, .int .i64 c, .int .i64 i, .int .i64 x, .int .i64 k2, .int .i64 p2, .int .i64 q2, .int .i64 u2, .int .i64 v2, .int .i64 c2, .int .i64 i2, .int .i64 x2] t)) W.heap.size 16 (two8 (ffn k p q u v c i x) (ffn k2 p2 q2 u2 v2 c2 i2 x2)) := Bk.new .i64 W 16 (two8 (ffn k p q u v c i x) (ffn k2 p2 q2 u2 v2 c2 i2 x2)) t

end Go.Proofs.Ytlacmkcmfkakjaa
