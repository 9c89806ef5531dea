/-
  The walks of package inter: where a page is laid; the document's example.
-/
import Derived.Test.YtalbloeaojpbgaaInW3
namespace Go.Proofs.Ytalbloeaojpbgaa
open Go.RowKit
open Ge (pw rt hd ix)
open In (mx plR plQ plU plB pgn bk bkn okp)
attribute [local go_sem] Oper.semAt_some

theorem rt_pows {r s b o c : Int} (h : rt r s b o c = true) : pw r 8 = true ∧ pw b 16 = true ∧ pw o 1024 = true ∧ pw c 64 = true := by
  unfold rt at h
  simp only [Bool.and_eq_true] at h
  exact ⟨h.1.1.1.1.1.1, h.1.1.1.2, h.1.1.2, h.1.2⟩
theorem rw8_all {r s b o c way : Int} (h : rw8 r s b o c way = true) : rt r s b o c = true ∧ 0 ≤ way ∧ way < 4 := by
  unfold rw8 at h
  simp only [Bool.and_eq_true, decide_eq_true_eq] at h
  exact h
/-- the system has the page -/
def pgk (r s b o c way p : Int) : Bool := rw8 r s b o c way && decide (0 ≤ p ∧ p < r * b * o)
theorem pgk_all {r s b o c way p : Int} (h : pgk r s b o c way p = true) : rw8 r s b o c way = true ∧ 0 ≤ p ∧ p < r * b * o := by
  unfold pgk at h
  simp only [Bool.and_eq_true, decide_eq_true_eq] at h
  exact h
theorem placeOf8_any (r s b o c way p : Int) (h : pgk r s b o c way p = true) (w : World) :
    Calls Try.prog 19 #[.agg #[.int .i64 r, .int .i64 s, .int .i64 b, .int .i64 o, .int .i64 c], .int .i64 way, .int .i64 p] w fun e w' => e = .returned (.agg #[.int .i64 (plR way r b o p), .int .i64 (plB way r b o p), .int .i64 (plU way r b o p), .int .i64 0]) ∧ Below w.heap.size w w' := by
  obtain ⟨h0, hp, hp2⟩ := pgk_all h
  obtain ⟨h1, hw, hw2⟩ := rw8_all h0
  obtain ⟨a1, a2, a3, a4⟩ := rt_pows h1
  have b1 := Ge.pw_pos a1; have b2 := Ge.pw_pos a2; have b3 := Ge.pw_pos a3
  have b4 := rt_lines h1
  have hq := (In.plQ_in (way := way) b1.1 b2.1 b3.1 hp hp2).2.1
  rcases (show way = 0 ∨ way = 1 ∨ way = 2 ∨ way = 3 by omega) with rfl | rfl | rfl | rfl
  · have := placeOf_0 r s b o c p _ _ _ (fun w t => apart3 p o b r hp (by omega) ⟨by omega, by omega⟩ ⟨by omega, by omega⟩ ⟨by omega, by omega⟩ hp2 w t) w
    simp only [plR, plB, plQ, plU, if_pos, if_neg (show ¬ (0 : Int) = 3 by omega)]
    exact this
  · have := placeOf_1 r s b o c p _ _ _ (fun w t => apart3 p b o r hp (by omega) ⟨by omega, by omega⟩ ⟨by omega, by omega⟩ ⟨by omega, by omega⟩ (by rw [Int.mul_assoc, Int.mul_comm o b, ← Int.mul_assoc]; exact hp2) w t) w
    simp only [plR, plB, plQ, plU, if_pos, if_neg (show ¬ (1 : Int) = 3 by omega), if_neg (show ¬ (1 : Int) = 0 by omega)]
    exact this
  · have := placeOf_2 r s b o c p _ _ _ (fun w t => apart3 p r b o hp (by omega) ⟨by omega, by omega⟩ ⟨by omega, by omega⟩ ⟨by omega, by omega⟩ (by rw [Int.mul_assoc, Int.mul_comm o, Int.mul_comm b r]; exact hp2) w t) w
    simp only [plR, plB, plQ, plU, if_neg (show ¬ (2 : Int) = 3 by omega), if_neg (show ¬ (2 : Int) = 0 by omega), if_neg (show ¬ (2 : Int) = 1 by omega)]
    exact this
  · have := placeOf_3 r s b o c p _ _ _ a2 (by have := hq; simp only [plQ, if_neg (show ¬ (3 : Int) = 0 by omega), if_neg (show ¬ (3 : Int) = 1 by omega)] at this; omega) (fun w t => apart3 p r b o hp (by omega) ⟨by omega, by omega⟩ ⟨by omega, by omega⟩ ⟨by omega, by omega⟩ (by rw [Int.mul_assoc, Int.mul_comm o, Int.mul_comm b r]; exact hp2) w t) w
    simp only [plR, plB, plQ, plU, if_pos, if_neg (show ¬ (3 : Int) = 0 by omega), if_neg (show ¬ (3 : Int) = 1 by omega)]
    exact this
theorem pages_right {r s b o c : Int} (h : rt r s b o c = true) : pgs r s b o c = r * b * o := by unfold pgs; rw [if_pos h]

set_option maxRecDepth 100000 in
set_option maxHeartbeats 4000000 in
theorem page_yes (r s b o c way p : Int) (h : pgk r s b o c way p = true) (w : World) :
    Calls Try.prog 8 #[.agg #[.int .i64 r, .int .i64 s, .int .i64 b, .int .i64 o, .int .i64 c], .int .i64 way, .int .i64 p] w fun e w' => e = .returned (.tuple #[.int .i64 (pgn way r b o p), .int .i64 0]) ∧ Below w.heap.size w w' := by
  obtain ⟨h0, hp, hp2⟩ := pgk_all h
  obtain ⟨h1, hw, hw2⟩ := rw8_all h0
  obtain ⟨a1, a2, a3, a4⟩ := rt_pows h1
  have HR : Hid (∀ w, Calls Try.prog 11 #[.agg #[.int .i64 r, .int .i64 s, .int .i64 b, .int .i64 o, .int .i64 c], .int .i64 way] w fun e w' => e = .returned (.bool true) ∧ Below w.heap.size w w') := fun w => by rw [← h0]; exact right8_any r s b o c way w
  obtain ⟨n, HN⟩ : ∃ n, Hid (r * b * o = n) := ⟨_, rfl⟩
  have HG : Hid (∀ w, Calls Try.prog 17 #[.agg #[.int .i64 r, .int .i64 s, .int .i64 b, .int .i64 o, .int .i64 c]] w fun e w' => e = .returned (.int .i64 n) ∧ Below w.heap.size w w') := fun w => by rw [← HN.out, ← pages_right h1]; exact pages_any r s b o c w
  have HI : Hid (∀ w, Calls Try.prog 16 #[.int .i64 p, .int .i64 n] w fun e w' => e = .returned (.bool true) ∧ w' = w) := fun w => by have := isBelow8_any p n w; rw [decide_eq_true (by rw [← HN.out]; exact ⟨hp, hp2⟩)] at this; exact this
  have HO : Hid (∀ w, Calls Try.prog 19 #[.agg #[.int .i64 r, .int .i64 s, .int .i64 b, .int .i64 o, .int .i64 c], .int .i64 way, .int .i64 p] w fun e w' => e = .returned (.agg #[.int .i64 (plR way r b o p), .int .i64 (plB way r b o p), .int .i64 (plU way r b o p), .int .i64 0]) ∧ Below w.heap.size w w') := placeOf8_any r s b o c way p h
  have b1 := Ge.pw_pos a1; have b2 := Ge.pw_pos a2; have b3 := Ge.pw_pos a3; have b4 := Ge.pw_pos a4
  have q1 := In.plQ_in (way := way) b1.1 b2.1 b3.1 hp hp2
  have q2 := In.plB_in (way := way) a2 b1.1 b3.1 hp hp2
  have s0 := (Ge.rt_all h1).2.1
  obtain ⟨P, hP⟩ : ∃ P, plR way r b o p = P := ⟨_, rfl⟩
  obtain ⟨Q, hQ⟩ : ∃ Q, plB way r b o p = Q := ⟨_, rfl⟩
  obtain ⟨T, hT⟩ : ∃ T, plU way r b o p = T := ⟨_, rfl⟩
  have HX : Hid (∀ w, Calls Try.prog 18 #[.agg #[.int .i64 r, .int .i64 s, .int .i64 b, .int .i64 o, .int .i64 c], .agg #[.int .i64 P, .int .i64 Q, .int .i64 T, .int .i64 0]] w fun e w' => e = .returned (.tuple #[.int .i64 (ix P Q T 0), .int .i64 0]) ∧ Below w.heap.size w w') := fun w => index_yes r s b o c P Q T 0 (by
    rw [← hP, ← hQ, ← hT]
    unfold hd
    simp only [Bool.and_eq_true, decide_eq_true_eq]
    exact ⟨⟨⟨⟨h1, by omega⟩, by omega⟩, by omega⟩, by omega⟩) w
  have e1 : pgn way r b o p = ix P Q T 0 / 64 := by unfold pgn ix; rw [hP, hQ, hT]; omega
  have i0 : 0 ≤ ix P Q T 0 := by unfold ix; omega
  have i1 : ix P Q T 0 < 8388608 := by unfold ix; omega
  rw [e1]
  rw [hP, hQ, hT] at HO
  obtain ⟨i, hi⟩ : ∃ i, ix P Q T 0 = i := ⟨_, rfl⟩
  rw [hi] at HX i0 i1 ⊢
  clear hi e1 hP hQ hT q1 q2 s0 a1 a2 a3 a4 b1 b2 b3 b4 h h0 h1 hp hp2 hw hw2
  go_enter Try.func8, Try.ntmps8
  go_wp2_with fail
  obtain ⟨B, hB⟩ : ∃ B, w.heap.size = B := ⟨_, rfl⟩
  have HS : Hid (Gm (w.alloc (.cells #[.int .i64 r, .int .i64 s, .int .i64 b, .int .i64 o, .int .i64 c] 23)) B r s b o c ∧ Below B w (w.alloc (.cells #[.int .i64 r, .int .i64 s, .int .i64 b, .int .i64 o, .int .i64 c] 23))) := by rw [← hB]; exact ⟨Gm.new w r s b o c _, (Below.refl _ w).alloc (Nat.le_refl _) _⟩
  rw [hB]
  refine (HR.out _).mono ?_
  rintro e W1 ⟨rfl, bW⟩
  replace HS : Hid (Gm W1 B r s b o c ∧ Below B w W1) := ⟨HS.out.1.next bW, HS.out.2.trans (bW.mono (Nat.le_of_lt HS.out.1.lt))⟩
  clear bW
  have g0 := HS.out.1.c0; have g1 := HS.out.1.c1; have g2 := HS.out.1.c2; have g3 := HS.out.1.c3; have g4 := HS.out.1.c4
  go_wp2_with fail
  refine (HG.out _).mono ?_
  rintro e W2 ⟨rfl, bW⟩
  replace HS : Hid (Gm W2 B r s b o c ∧ Below B w W2) := ⟨HS.out.1.next bW, HS.out.2.trans (bW.mono (Nat.le_of_lt HS.out.1.lt))⟩
  clear bW g0 g1 g2 g3 g4
  go_wp2_with (go_at_call 16; refine (HI.out _).mono ?_; rintro e w' ⟨rfl, rfl⟩)
  refine region_calm (by kernel_rfl) (by kernel_rfl) (fun W => Below w'.heap.size w' W) (below_drew1 w') ?_
  intro U hU fw hf hof
  have HN : Hid (∀ x W, Below (fw x).heap.size (fw x) W → ∃ y, W = fw y) := fun x W h => hof W ((hf x).trans (h.mono (hf x).size))
  have HF : Hid (∀ x, Gm (fw x) B r s b o c ∧ Below B w (fw x)) := fun x => ⟨HS.out.1.next (hf x), HS.out.2.trans ((hf x).mono (Nat.le_of_lt HS.out.1.lt))⟩
  have g0 : ∀ x, (fw x).cell? ⟨B, 0, none⟩ = some (.int .i64 r) := fun x => (HF.out x).1.c0
  have g1 : ∀ x, (fw x).cell? ⟨B, 1, none⟩ = some (.int .i64 s) := fun x => (HF.out x).1.c1
  have g2 : ∀ x, (fw x).cell? ⟨B, 2, none⟩ = some (.int .i64 b) := fun x => (HF.out x).1.c2
  have g3 : ∀ x, (fw x).cell? ⟨B, 3, none⟩ = some (.int .i64 o) := fun x => (HF.out x).1.c3
  have g4 : ∀ x, (fw x).cell? ⟨B, 4, none⟩ = some (.int .i64 c) := fun x => (HF.out x).1.c4
  clear hf hof
  repeat (go_big_quiet_step ((first | (go_at_call 19; exact calm_next HN.out (HO.out _)) | (go_at_call 18; exact calm_next HN.out (HX.out _)))))
  refine wpQuiet_nil ?_
  rintro _ ⟨x9, rfl⟩
  have HE := (HF.out x9).2
  go_wp2
  refine bodyPost_ret (results_tmp2 rfl _ _ _) rfl ⟨rfl, ?_⟩
  rw [hB]
  exact HE
set_option maxRecDepth 100000 in
set_option maxHeartbeats 4000000 in
theorem page_no (r s b o c way p : Int) (h : pgk r s b o c way p = false) (w : World) :
    Calls Try.prog 8 #[.agg #[.int .i64 r, .int .i64 s, .int .i64 b, .int .i64 o, .int .i64 c], .int .i64 way, .int .i64 p] w fun e w' => e = .returned (.tuple #[.int .i64 0, .int .i64 12]) ∧ Below w.heap.size w w' := by
  obtain ⟨z, Z⟩ : ∃ z, Hid (rw8 r s b o c way = z) := ⟨_, rfl⟩
  have HR : Hid (∀ w, Calls Try.prog 11 #[.agg #[.int .i64 r, .int .i64 s, .int .i64 b, .int .i64 o, .int .i64 c], .int .i64 way] w fun e w' => e = .returned (.bool z) ∧ Below w.heap.size w w') := fun w => by rw [← Z.out]; exact right8_any r s b o c way w
  obtain ⟨n, HN⟩ : ∃ n, Hid (pgs r s b o c = n) := ⟨_, rfl⟩
  have HG : Hid (∀ w, Calls Try.prog 17 #[.agg #[.int .i64 r, .int .i64 s, .int .i64 b, .int .i64 o, .int .i64 c]] w fun e w' => e = .returned (.int .i64 n) ∧ Below w.heap.size w w') := fun w => by rw [← HN.out]; exact pages_any r s b o c w
  have Hh : Hid (pgk r s b o c way p = false) := h
  clear h
  go_enter Try.func8, Try.ntmps8
  go_wp2_with fail
  obtain ⟨B, hB⟩ : ∃ B, w.heap.size = B := ⟨_, rfl⟩
  have HS : Hid (Gm (w.alloc (.cells #[.int .i64 r, .int .i64 s, .int .i64 b, .int .i64 o, .int .i64 c] 23)) B r s b o c ∧ Below B w (w.alloc (.cells #[.int .i64 r, .int .i64 s, .int .i64 b, .int .i64 o, .int .i64 c] 23))) := by rw [← hB]; exact ⟨Gm.new w r s b o c _, (Below.refl _ w).alloc (Nat.le_refl _) _⟩
  rw [hB]
  refine (HR.out _).mono ?_
  rintro e W1 ⟨rfl, bW⟩
  replace HS : Hid (Gm W1 B r s b o c ∧ Below B w W1) := ⟨HS.out.1.next bW, HS.out.2.trans (bW.mono (Nat.le_of_lt HS.out.1.lt))⟩
  clear bW
  cases z with
  | false =>
    go_wp2
    refine bodyPost_ret (results_tmp2 rfl _ _ _) rfl ⟨rfl, ?_⟩
    rw [hB]
    exact HS.out.2
  | true =>
    have HI : Hid (∀ w, Calls Try.prog 16 #[.int .i64 p, .int .i64 n] w fun e w' => e = .returned (.bool false) ∧ w' = w) := fun w => by
      have := isBelow8_any p n w
      rw [decide_eq_false (by
        rw [← HN.out, pages_right (rw8_all Z.out).1]
        intro hc
        have := Hh.out
        unfold pgk at this
        rw [Z.out, decide_eq_true hc] at this
        cases this)] at this
      exact this
    have g0 := HS.out.1.c0; have g1 := HS.out.1.c1; have g2 := HS.out.1.c2; have g3 := HS.out.1.c3; have g4 := HS.out.1.c4
    go_wp2_with fail
    refine (HG.out _).mono ?_
    rintro e W2 ⟨rfl, bW⟩
    replace HS : Hid (Gm W2 B r s b o c ∧ Below B w W2) := ⟨HS.out.1.next bW, HS.out.2.trans (bW.mono (Nat.le_of_lt HS.out.1.lt))⟩
    clear bW g0 g1 g2 g3 g4
    go_wp2_with (go_at_call 16; refine (HI.out _).mono ?_; rintro e w' ⟨rfl, rfl⟩)
    refine bodyPost_ret (results_tmp2 rfl _ _ _) rfl ⟨rfl, ?_⟩
    rw [hB]
    exact HS.out.2

theorem anchor8_any (w : World) : Calls Try.prog 7 #[] w fun e w' => e = .returned (.bool true) ∧ Below w.heap.size w w' := by
  have C1 : Hid (∀ w, Calls Try.prog 8 #[.agg #[.int .i64 2, .int .i64 0, .int .i64 2, .int .i64 4, .int .i64 1], .int .i64 1, .int .i64 3] w fun e w' => e = .returned (.tuple #[.int .i64 1025, .int .i64 0]) ∧ Below w.heap.size w w') := fun w => page_yes 2 0 2 4 1 1 3 (by decide) w
  go_enter Try.func7, Try.ntmps7
  go_wp2_with fail
  refine (C1.out _).mono ?_
  rintro e W1 ⟨rfl, bW⟩
  go_wp2
  go_ret
  exact ⟨rfl, bW⟩
end Go.Proofs.Ytalbloeaojpbgaa
