/-
  InterUnlike.
-/
import Derived.Test.YtalbloeaojpbgaaInL1
namespace Go.Proofs.Ytalbloeaojpbgaa
open Go.RowKit
open Ge (pw rt hd ix)
open In (mx plR plQ plU plB pgn bk bkn okp)
attribute [local go_sem] Oper.semAt_some

theorem page_told_any (r s b o c way p : Int) : ∃ x f : Int, Hid ((pgk r s b o c way p = true ∧ x = pgn way r b o p ∧ f = 0) ∨ (pgk r s b o c way p = false ∧ x = 0 ∧ f = 12)) ∧
    Hid (∀ w : World, Calls Try.prog 8 #[.agg #[.int .i64 r, .int .i64 s, .int .i64 b, .int .i64 o, .int .i64 c], .int .i64 way, .int .i64 p] w fun e w' => e = .returned (.tuple #[.int .i64 x, .int .i64 f]) ∧ Below w.heap.size w w') := by
  cases h : pgk r s b o c way p with
  | true => exact ⟨_, _, .inl ⟨rfl, rfl, rfl⟩, fun w => page_yes r s b o c way p h w⟩
  | false => exact ⟨_, _, .inr ⟨rfl, rfl, rfl⟩, fun w => page_no r s b o c way p h w⟩
/-- where a page of the system is laid -/
theorem page_place {r s b o c way p : Int} (h : pgk r s b o c way p = true) :
    (0 ≤ pgn way r b o p ∧ pgn way r b o p < 131072) ∧ (0 ≤ plR way r b o p ∧ plR way r b o p < r) ∧ (0 ≤ plB way r b o p ∧ plB way r b o p < b) ∧ (0 ≤ plU way r b o p ∧ plU way r b o p < o) ∧ bkn way r b o (pgn way r b o p) = p ∧
    ∀ w : World, Calls Try.prog 14 #[.agg #[.int .i64 r, .int .i64 s, .int .i64 b, .int .i64 o, .int .i64 c], .int .i64 (pgn way r b o p * 64)] w fun e w' => e = .returned (.tuple #[.agg #[.int .i64 (plR way r b o p), .int .i64 (plB way r b o p), .int .i64 (plU way r b o p), .int .i64 0], .int .i64 0]) ∧ Below w.heap.size w w' := by
  obtain ⟨h0, hp, hp2⟩ := pgk_all h
  obtain ⟨h1, hw, hw2⟩ := rw8_all h0
  obtain ⟨a1, a2, a3, a4⟩ := rt_pows h1
  have b1 := Ge.pw_pos a1; have b2 := Ge.pw_pos a2; have b3 := Ge.pw_pos a3; have b4 := Ge.pw_pos a4
  have q1 := In.plQ_in (way := way) b1.1 b2.1 b3.1 hp hp2
  have q2 := In.plB_in (way := way) a2 b1.1 b3.1 hp hp2
  have s0 := (Ge.rt_all h1).2.1
  obtain ⟨_, k1, k2, k3, k4⟩ := In.pgn_ok (way := way) a1 a2 a3 hp hp2
  refine ⟨by unfold pgn; omega, q1.1, q2, q1.2.2, k1, fun w => ?_⟩
  have e1 : pgn way r b o p * 64 / 1048576 = plR way r b o p := by omega
  have e2 : pgn way r b o p * 64 / 65536 % 16 = plB way r b o p := by omega
  have e3 : pgn way r b o p * 64 / 64 % 1024 = plU way r b o p := by omega
  have e4 : pgn way r b o p * 64 % 64 = 0 := by omega
  have := at_yes r s b o c (pgn way r b o p * 64) (by
    unfold hx
    rw [e1, e2, e3, e4]
    unfold hd
    simp only [Bool.and_eq_true, decide_eq_true_eq]
    exact ⟨⟨⟨⟨h1, by omega⟩, by omega⟩, by omega⟩, by omega⟩) w
  rw [e1, e2, e3, e4] at this
  exact this

set_option maxRecDepth 100000 in
set_option maxHeartbeats 4000000 in
theorem interUnlike_core (r s b o c way i k : Int) (w : World) :
    Calls Try.prog 4 #[.agg #[.int .i64 r, .int .i64 s, .int .i64 b, .int .i64 o, .int .i64 c], .int .i64 way, .int .i64 i, .int .i64 k] w fun e w' => e = .returned (.bool true) ∧ Below w.heap.size w w' := by
  obtain ⟨x, f, HX, C1⟩ := page_told_any r s b o c way i
  obtain ⟨y, g, HY, C2⟩ := page_told_any r s b o c way k
  obtain ⟨B, HB⟩ : ∃ B, Hid (w.heap.size = B) := ⟨_, rfl⟩
  rw [HB.out]
  go_enter Try.func4, Try.ntmps4
  go_wp2_with fail
  have HS : Hid (G8 B r s b o c w (w.alloc (.cells #[.int .i64 r, .int .i64 s, .int .i64 b, .int .i64 o, .int .i64 c] 23))) := by rw [← HB.out]; exact G8.start w r s b o c _
  rw [HB.out]
  refine (anchor8_any _).mono ?_
  rintro e W1 ⟨rfl, bW⟩
  replace HS : Hid (G8 B r s b o c w W1) := HS.out.next bW
  clear bW
  have g0 := HS.out.g.c0; have g1 := HS.out.g.c1; have g2 := HS.out.g.c2; have g3 := HS.out.g.c3; have g4 := HS.out.g.c4
  go_wp2_with fail
  refine (C1.out _).mono ?_
  rintro e W2 ⟨rfl, bW⟩
  replace HS : Hid (G8 B r s b o c w W2) := HS.out.next bW
  clear bW g0 g1 g2 g3 g4
  have g0 := HS.out.g.c0; have g1 := HS.out.g.c1; have g2 := HS.out.g.c2; have g3 := HS.out.g.c3; have g4 := HS.out.g.c4
  go_wp2_with fail
  refine (C2.out _).mono ?_
  rintro e W3 ⟨rfl, bW⟩
  replace HS : Hid (G8 B r s b o c w W3) := HS.out.next bW
  clear bW g0 g1 g2 g3 g4
  rcases HX.out with ⟨hp, hx, rfl⟩ | ⟨hp, rfl, rfl⟩
  rotate_left
  · clear HX HY hp
    go_wp2
    go_ret
    exact ⟨rfl, HS.out.below⟩
  rcases HY.out with ⟨hq, hy, rfl⟩ | ⟨hq, rfl, rfl⟩
  rotate_left
  · clear HX HY hp hq hx
    go_wp2
    go_ret
    exact ⟨rfl, HS.out.below⟩
  obtain ⟨⟨x0, x1⟩, ⟨P0, P1⟩, _, _, hk, C3⟩ := page_place hp
  obtain ⟨⟨y0, y1⟩, _, _, _, hk2, _⟩ := page_place hq
  have e1 : (x == y) = (i == k) := by
    rw [hx, hy, Bool.eq_iff_iff, beq_iff_eq, beq_iff_eq]
    exact ⟨fun h => by rw [← hk, ← hk2, h], fun h => by rw [h]⟩
  replace C3 : Hid _ := C3
  rw [← hx] at C3 x0 x1
  rw [← hy] at y0 y1
  obtain ⟨P, hP⟩ : ∃ P, plR way r b o i = P := ⟨_, rfl⟩
  obtain ⟨Q, hQ⟩ : ∃ Q, plB way r b o i = Q := ⟨_, rfl⟩
  obtain ⟨T, hT⟩ : ∃ T, plU way r b o i = T := ⟨_, rfl⟩
  rw [hP, hQ, hT] at C3
  rw [hP] at P0 P1
  clear hP hQ hT hx hy hk hk2 hp hq HX HY C1 C2
  have g0 := HS.out.g.c0; have g1 := HS.out.g.c1; have g2 := HS.out.g.c2; have g3 := HS.out.g.c3; have g4 := HS.out.g.c4
  go_wp2_with fail
  refine (C3.out _).mono ?_
  rintro e W4 ⟨rfl, bW⟩
  replace HS : Hid (G8 B r s b o c w W4) := HS.out.next bW
  clear bW g0 g1 g2 g3 g4
  have l4 := HS.out.g.lt
  go_upto_region 8 with (fail)
  obtain ⟨D, hD⟩ : ∃ D, W4.heap.size = D := ⟨_, rfl⟩
  obtain ⟨V, hV⟩ : ∃ V, W4.alloc (.cells #[.int .i64 P, .int .i64 Q, .int .i64 T, .int .i64 0] 35) = V := ⟨_, rfl⟩
  have HD : Hid (Pl V D P Q T 0) := by rw [← hV, ← hD]; exact Pl.new W4 P Q T 0 _
  replace HS : Hid (G8 B r s b o c w V) := by rw [← hV]; exact HS.out.next ((Below.refl _ W4).alloc (Nat.le_refl _) _)
  rw [hV, hD]
  clear hV hD l4
  have g0 := HS.out.g.c0
  have d0 := HD.out.c0; have d3 := HD.out.c3
  cases hik : (i == k) with
  | true =>
    rw [hik] at e1
    go_wp2
    go_ret
    exact ⟨rfl, HS.out.below⟩
  | false =>
    rw [hik] at e1
    go_wp2
    go_ret
    exact ⟨rfl, HS.out.below⟩
theorem interUnlike_walk (a0 : Nat → Int) (a1 a2 a3 : Int) (_w0 : ∀ i, i < 5 → (Lit.int .i64 (a0 i)).wf = true) (_w1 : (Lit.int .i64 a1).wf = true) (_w2 : (Lit.int .i64 a2).wf = true) (_w3 : (Lit.int .i64 a3).wf = true) (w : World) :
    Calls Try.prog 4 #[.agg (ints .i64 5 a0).toArray, .int .i64 a1, .int .i64 a2, .int .i64 a3] w fun e w' => e = .returned (.bool true) ∧ Below w.heap.size w w' :=
  interUnlike_core (a0 0) (a0 1) (a0 2) (a0 3) (a0 4) a1 a2 a3 w
end Go.Proofs.Ytalbloeaojpbgaa
