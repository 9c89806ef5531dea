/-
  The walks of package fault: Right, of any fault; where a fault lies.
-/
import Derived.Test.YtcpjmfemgdgplaaFaW4
namespace Go.Proofs.Ytcpjmfemgdgplaa
open Go.RowKit Go.Shelf
open Ge (pw rt hd ix)
attribute [local go_sem] Oper.semAt_some

/-- what the kinds ask of what they have -/
abbrev kOk (k p q u v c i x : Int) : Prop := (k ≠ 1 ∨ (c = 0 ∧ x = 0)) ∧ (k ≠ 2 ∨ (c = 0 ∧ x ≤ 1)) ∧ (k ≠ 3 ∨ (i = 0 ∧ v = 0)) ∧ (k ≠ 4 ∨ (i = 0 ∧ u = 0)) ∧ (k ≠ 5 ∨ (i = 0 ∧ q = 0 ∧ u = 0 ∧ v = 0)) ∧ (k ≠ 6 ∨ (c = 0 ∧ i = 0 ∧ x = 0)) ∧ (k ≠ 7 ∨ (p = 0 ∧ q = 0 ∧ u = 0 ∧ v = 0 ∧ c = 0 ∧ i = 0 ∧ x = 0))
/-- all that is asked of a fault, its place apart -/
abbrev rtP (n : Int) (k p q u v c i x : Int) : Prop := 1 ≤ k ∧ k ≤ 7 ∧ 0 ≤ c ∧ c < n ∧ 0 ≤ i ∧ i < 576 ∧ 0 ≤ x ∧ x < 256 ∧ kOk k p q u v c i x

/-- may a fault be -/
def rtF (n : Int) (h : Bool) (k p q u v c i x : Int) : Bool := h && decide (rtP n k p q u v c i x)
theorem rtF_is (n : Int) (h : Bool) (k p q u v c i x : Int) (z : Bool) (e : z = true ↔ (h = true ∧ rtP n k p q u v c i x)) : z = rtF n h k p q u v c i x := by
  unfold rtF
  rw [Bool.eq_iff_iff, e]
  simp
theorem fRight_any (k p q u v c i x : Int) (r s b o d m n j : Int) (hm : Md m n j) (w : World) :
    Calls Try.prog 31 #[.agg #[.int .i64 k, .int .i64 p, .int .i64 q, .int .i64 u, .int .i64 v, .int .i64 c, .int .i64 i, .int .i64 x], .agg #[.int .i64 r, .int .i64 s, .int .i64 b, .int .i64 o, .int .i64 d], .int .i64 m] w fun e w' => e = .returned (.bool (rtF n (hd r s b o d p q u v) k p q u v c i x)) ∧ Below w.heap.size w w' := by
  by_cases h1 : k = 1
  · subst h1
    refine (fRight_core 1 p q u v c i x r s b o d m n j hm (1) (p) (q) (u) (v) (0) (i) (0) (fun w => own_flip p q u v c i x w) w).mono ?_
    rintro e w' ⟨rfl, hb⟩
    refine ⟨congrArg (fun y => Ending.returned (.bool y)) (rtF_is n (hd r s b o d p q u v) 1 p q u v c i x _ ?_), hb⟩
    rw [Bool.and_eq_true, Bool.and_eq_true, Bool.and_eq_true, Bool.and_eq_true, Bool.and_eq_true]
    simp only [decide_eq_true_eq]
    unfold rtP kOk
    generalize hd r s b o d p q u v = z
    rw [if_neg (by omega)]
    cases z <;> simp only [Bool.false_eq_true, false_and, and_false, true_and] <;> try omega
  by_cases h2 : k = 2
  · subst h2
    refine (fRight_core 2 p q u v c i x r s b o d m n j hm (2) (p) (q) (u) (v) (0) (i) (x) (fun w => own_stuck p q u v c i x w) w).mono ?_
    rintro e w' ⟨rfl, hb⟩
    refine ⟨congrArg (fun y => Ending.returned (.bool y)) (rtF_is n (hd r s b o d p q u v) 2 p q u v c i x _ ?_), hb⟩
    rw [Bool.and_eq_true, Bool.and_eq_true, Bool.and_eq_true, Bool.and_eq_true, Bool.and_eq_true]
    simp only [decide_eq_true_eq]
    unfold rtP kOk
    generalize hd r s b o d p q u v = z
    rw [if_pos trivial]
    cases z <;> simp only [Bool.false_eq_true, false_and, and_false, true_and, and_true] <;> try omega
  by_cases h3 : k = 3
  · subst h3
    refine (fRight_core 3 p q u v c i x r s b o d m n j hm (3) (p) (q) (u) (0) (c) (0) (x) (fun w => own_row p q u v c i x w) w).mono ?_
    rintro e w' ⟨rfl, hb⟩
    refine ⟨congrArg (fun y => Ending.returned (.bool y)) (rtF_is n (hd r s b o d p q u v) 3 p q u v c i x _ ?_), hb⟩
    rw [Bool.and_eq_true, Bool.and_eq_true, Bool.and_eq_true, Bool.and_eq_true, Bool.and_eq_true]
    simp only [decide_eq_true_eq]
    unfold rtP kOk
    generalize hd r s b o d p q u v = z
    rw [if_neg (by omega)]
    cases z <;> simp only [Bool.false_eq_true, false_and, and_false, true_and, and_true] <;> try omega
  by_cases h4 : k = 4
  · subst h4
    refine (fRight_core 4 p q u v c i x r s b o d m n j hm (4) (p) (q) (0) (v) (c) (0) (x) (fun w => own_col p q u v c i x w) w).mono ?_
    rintro e w' ⟨rfl, hb⟩
    refine ⟨congrArg (fun y => Ending.returned (.bool y)) (rtF_is n (hd r s b o d p q u v) 4 p q u v c i x _ ?_), hb⟩
    rw [Bool.and_eq_true, Bool.and_eq_true, Bool.and_eq_true, Bool.and_eq_true, Bool.and_eq_true]
    simp only [decide_eq_true_eq]
    unfold rtP kOk
    generalize hd r s b o d p q u v = z
    rw [if_neg (by omega)]
    cases z <;> simp only [Bool.false_eq_true, false_and, and_false, true_and, and_true] <;> try omega
  by_cases h5 : k = 5
  · subst h5
    refine (fRight_core 5 p q u v c i x r s b o d m n j hm (5) (p) (0) (0) (0) (c) (0) (x) (fun w => own_chip p q u v c i x w) w).mono ?_
    rintro e w' ⟨rfl, hb⟩
    refine ⟨congrArg (fun y => Ending.returned (.bool y)) (rtF_is n (hd r s b o d p q u v) 5 p q u v c i x _ ?_), hb⟩
    rw [Bool.and_eq_true, Bool.and_eq_true, Bool.and_eq_true, Bool.and_eq_true, Bool.and_eq_true]
    simp only [decide_eq_true_eq]
    unfold rtP kOk
    generalize hd r s b o d p q u v = z
    rw [if_neg (by omega)]
    cases z <;> simp only [Bool.false_eq_true, false_and, and_false, true_and, and_true] <;> try omega
  by_cases h6 : k = 6
  · subst h6
    refine (fRight_core 6 p q u v c i x r s b o d m n j hm (6) (p) (q) (u) (v) (0) (0) (0) (fun w => own_stray p q u v c i x w) w).mono ?_
    rintro e w' ⟨rfl, hb⟩
    refine ⟨congrArg (fun y => Ending.returned (.bool y)) (rtF_is n (hd r s b o d p q u v) 6 p q u v c i x _ ?_), hb⟩
    rw [Bool.and_eq_true, Bool.and_eq_true, Bool.and_eq_true, Bool.and_eq_true, Bool.and_eq_true]
    simp only [decide_eq_true_eq]
    unfold rtP kOk
    generalize hd r s b o d p q u v = z
    rw [if_neg (by omega)]
    cases z <;> simp only [Bool.false_eq_true, false_and, and_false, true_and] <;> try omega
  · skip
    refine (fRight_core k p q u v c i x r s b o d m n j hm (k) (0) (0) (0) (0) (0) (0) (0) (fun w => own_rest k p q u v c i x (by simpa using h1) (by simpa using h2) (by simpa using h3) (by simpa using h4) (by simpa using h5) (by simpa using h6) w) w).mono ?_
    rintro e w' ⟨rfl, hb⟩
    refine ⟨congrArg (fun y => Ending.returned (.bool y)) (rtF_is n (hd r s b o d p q u v) k p q u v c i x _ ?_), hb⟩
    rw [Bool.and_eq_true, Bool.and_eq_true, Bool.and_eq_true, Bool.and_eq_true, Bool.and_eq_true]
    simp only [decide_eq_true_eq]
    unfold rtP kOk
    generalize hd r s b o d p q u v = z
    rw [if_neg (by omega)]
    cases z <;> simp only [Bool.false_eq_true, false_and, and_false, true_and] <;> try omega
end Go.Proofs.Ytcpjmfemgdgplaa
