/-
  InterLines.
-/
import Derived.Test.YtalbloeaojpbgaaInW5
import Derived.Test.YtalbloeaojpbgaaRecArgs
namespace Go.Proofs.Ytalbloeaojpbgaa
open Go.RowKit
open Ge (pw rt hd ix)
open In (mx plR plQ plU plB pgn bk bkn okp)
attribute [local go_sem] Oper.semAt_some

/-- a geometry in B -/
structure G8 (B : Nat) (r s b o c : Int) (w W : World) : Prop where
  g : Gm W B r s b o c
  below : Below B w W
theorem G8.start (w : World) (r s b o c : Int) (t : TypeId) : G8 w.heap.size r s b o c w (w.alloc (.cells #[.int .i64 r, .int .i64 s, .int .i64 b, .int .i64 o, .int .i64 c] t)) := ⟨Gm.new w r s b o c t, (Below.refl _ w).alloc (Nat.le_refl _) _⟩
theorem G8.next {B : Nat} {r s b o c : Int} {w W W' : World} (h : G8 B r s b o c w W) (k : Below W.heap.size W W') : G8 B r s b o c w W' := ⟨h.g.next k, h.below.trans (k.mono (Nat.le_of_lt h.g.lt))⟩
theorem line_told_any (r s b o c way l : Int) : ∃ x y f : Int, Hid ((lnk r s b o c way l = true ∧ x = l / c ∧ y = l % c ∧ f = 0) ∨ (lnk r s b o c way l = false ∧ x = 0 ∧ y = 0 ∧ f = 12)) ∧
    Hid (∀ w : World, Calls Try.prog 15 #[.agg #[.int .i64 r, .int .i64 s, .int .i64 b, .int .i64 o, .int .i64 c], .int .i64 way, .int .i64 l] w fun e w' => e = .returned (.tuple #[.int .i64 x, .int .i64 y, .int .i64 f]) ∧ Below w.heap.size w w') := by
  cases h : lnk r s b o c way l with
  | true => exact ⟨_, _, _, .inl ⟨rfl, rfl, rfl, rfl⟩, fun w => line_yes r s b o c way l h w⟩
  | false => exact ⟨_, _, _, .inr ⟨rfl, rfl, rfl, rfl⟩, fun w => line_no r s b o c way l h w⟩

set_option maxRecDepth 100000 in
set_option maxHeartbeats 4000000 in
theorem interLines_core (r s b o c way l : Int) (hr : I64 r) (hb : I64 b) (ho : I64 o) (hc : I64 c) (w : World) :
    Calls Try.prog 5 #[.agg #[.int .i64 r, .int .i64 s, .int .i64 b, .int .i64 o, .int .i64 c], .int .i64 way, .int .i64 l] w fun e w' => e = .returned (.bool true) ∧ Below w.heap.size w w' := by
  obtain ⟨z0, Z0⟩ : ∃ z, Hid (rt r s b o c = z) := ⟨_, rfl⟩
  have HR' : Hid (∀ w, Calls Try.prog 10 #[.agg #[.int .i64 r, .int .i64 s, .int .i64 b, .int .i64 o, .int .i64 c]] w fun e w' => e = .returned (.bool z0) ∧ Below w.heap.size w w') := fun w => by rw [← Z0.out]; exact refRight_any r s b o c hr hb ho hc w
  obtain ⟨x, y, f, HX, C1⟩ := line_told_any r s b o c way l
  clear hr hb ho hc
  obtain ⟨B, HB⟩ : ∃ B, Hid (w.heap.size = B) := ⟨_, rfl⟩
  rw [HB.out]
  go_enter Try.func5, Try.ntmps5
  go_wp2_with fail
  have HS : Hid (G8 B r s b o c w (w.alloc (.cells #[.int .i64 r, .int .i64 s, .int .i64 b, .int .i64 o, .int .i64 c] 23))) := by rw [← HB.out]; exact G8.start w r s b o c _
  rw [HB.out]
  refine (anchor8_any _).mono ?_
  rintro e W1 ⟨rfl, bW⟩
  replace HS : Hid (G8 B r s b o c w W1) := HS.out.next bW
  clear bW
  have g0 := HS.out.g.c0; have g1 := HS.out.g.c1; have g2 := HS.out.g.c2; have g3 := HS.out.g.c3; have g4 := HS.out.g.c4
  go_wp2_with fail
  refine (C1.out _).mono ?_
  rintro e W2 ⟨rfl, bW⟩
  replace HS : Hid (G8 B r s b o c w W2) := HS.out.next bW
  clear bW g0 g1 g2 g3 g4
  have g0 := HS.out.g.c0; have g1 := HS.out.g.c1; have g2 := HS.out.g.c2; have g3 := HS.out.g.c3; have g4 := HS.out.g.c4
  go_wp2_with fail
  refine (HR'.out _).mono ?_
  rintro e W3 ⟨rfl, bW⟩
  replace HS : Hid (G8 B r s b o c w W3) := HS.out.next bW
  clear bW g0 g1 g2 g3 g4
  have g0 := HS.out.g.c0; have g2 := HS.out.g.c2; have g3 := HS.out.g.c3; have g4 := HS.out.g.c4
  have HN : Hid (lnk r s b o c way l = false → x = 0 ∧ y = 0 ∧ f = 12) := fun h => by
    rcases HX.out with h2 | h2
    · rw [h] at h2; cases h2.1
    · exact h2.2
  cases z0 with
  | false =>
    obtain ⟨rfl, rfl, rfl⟩ := HN.out (by unfold lnk rw8; rw [Z0.out]; rfl)
    clear HX HN
    go_wp2
    go_ret
    exact ⟨rfl, HS.out.below⟩
  | true =>
    by_cases w0 : way < 0
    · obtain ⟨rfl, rfl, rfl⟩ := HN.out (by unfold lnk rw8; rw [decide_eq_false (by omega)]; simp)
      clear HX HN
      go_wp2
      go_ret
      exact ⟨rfl, HS.out.below⟩
    by_cases w4 : 3 < way
    · obtain ⟨rfl, rfl, rfl⟩ := HN.out (by unfold lnk rw8; rw [decide_eq_false (by omega)]; simp)
      clear HX HN
      go_wp2
      go_ret
      exact ⟨rfl, HS.out.below⟩
    have w0' : 0 ≤ way := by omega
    have w4' : way ≤ 3 := by omega
    clear w0 w4
    have hk : rw8 r s b o c way = true := by unfold rw8; rw [Z0.out, decide_eq_true (by omega)]; rfl
    by_cases l0 : l < 0
    · obtain ⟨rfl, rfl, rfl⟩ := HN.out (by unfold lnk; rw [decide_eq_false (by omega)]; simp)
      clear HX HN hk
      go_wp2
      go_ret
      exact ⟨rfl, HS.out.below⟩
    obtain ⟨_, _, ⟨p1, p2⟩, ⟨p3, p4⟩⟩ := rt_prods Z0.out
    obtain ⟨_, _, p5, p6⟩ := rt_lines Z0.out
    have l0' : 0 ≤ l := by omega
    clear l0
    by_cases l1 : r * b * o * c ≤ l
    · obtain ⟨rfl, rfl, rfl⟩ := HN.out (by unfold lnk; rw [decide_eq_false (by omega)]; simp)
      clear HX HN hk
      go_wp2
      go_ret
      exact ⟨rfl, HS.out.below⟩
    · have l1' : l < r * b * o * c := by omega
      obtain ⟨h2, hx, hy, rfl⟩ : lnk r s b o c way l = true ∧ x = l / c ∧ y = l % c ∧ f = 0 := by
        rcases HX.out with h2 | h2
        · exact h2
        · have h3 := h2.1
          unfold lnk at h3
          rw [hk, decide_eq_true ⟨l0', l1'⟩] at h3
          cases h3
      have c0 := (Ge.rt_all Z0.out).2.2.2.2.1
      have y0 : 0 ≤ y := by rw [hy]; exact Int.emod_nonneg _ (by omega)
      have y1 : y < c := by rw [hy]; exact Int.emod_lt_of_pos _ (by omega)
      have e1 : x * c + y = l := by rw [hx, hy]; exact Int.ediv_mul_add_emod l c
      have x0 : 0 ≤ x := by rw [hx]; exact Int.ediv_nonneg l0' (by omega)
      have x1 : 0 ≤ x * c := Int.mul_nonneg x0 (by omega)
      have x2 : x * c ≤ 4096 := by omega
      clear HX HN hk h2 hx hy
      go_wp2
      go_ret
      exact ⟨rfl, HS.out.below⟩
theorem interLines_walk (a0 : Nat → Int) (a1 a2 : Int) (w0 : ∀ i, i < 5 → (Lit.int .i64 (a0 i)).wf = true) (_w1 : (Lit.int .i64 a1).wf = true) (_w2 : (Lit.int .i64 a2).wf = true) (w : World) :
    Calls Try.prog 5 #[.agg (ints .i64 5 a0).toArray, .int .i64 a1, .int .i64 a2] w fun e w' => e = .returned (.bool true) ∧ Below w.heap.size w w' := by
  have hi : ∀ i, i < 5 → I64 (a0 i) := fun i hi => by have := bounds_i64 (w0 i hi); exact ⟨this.1, by omega⟩
  exact interLines_core (a0 0) (a0 1) (a0 2) (a0 3) (a0 4) a1 a2 (hi 0 (by omega)) (hi 2 (by omega)) (hi 3 (by omega)) (hi 4 (by omega)) w
end Go.Proofs.Ytalbloeaojpbgaa
