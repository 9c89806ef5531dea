/-
  The walks of package inter: a line's page and column.
-/
import Derived.Test.YtalbloeaojpbgaaInW4
namespace Go.Proofs.Ytalbloeaojpbgaa
open Go.RowKit
open Ge (pw rt hd ix)
open In (mx plR plQ plU plB pgn bk bkn okp)
attribute [local go_sem] Oper.semAt_some

/-- the system has the line -/
def lnk (r s b o c way l : Int) : Bool := rw8 r s b o c way && decide (0 ≤ l ∧ l < r * b * o * c)
theorem lnk_all {r s b o c way p : Int} (h : lnk r s b o c way p = true) : rw8 r s b o c way = true ∧ 0 ≤ p ∧ p < r * b * o * c := by
  unfold lnk at h
  simp only [Bool.and_eq_true, decide_eq_true_eq] at h
  exact h
theorem lines_right {r s b o c : Int} (h : rt r s b o c = true) : lns r s b o c = r * b * o * c := by unfold lns; rw [if_pos h]
theorem line_told {f : Func} {tmps : Array Value} {W : World} (hf : f.results = #[.tmp 6, .tmp 7, .tmp 8]) : (results f tmps).run Try.prog W = .ok (.tuple #[tmps.getD 6 undef, tmps.getD 7 undef, tmps.getD 8 undef]) W := by
  simp [results, hf]
set_option maxRecDepth 100000 in
set_option maxHeartbeats 4000000 in
theorem line_yes (r s b o c way p : Int) (h : lnk r s b o c way p = true) (w : World) :
    Calls Try.prog 15 #[.agg #[.int .i64 r, .int .i64 s, .int .i64 b, .int .i64 o, .int .i64 c], .int .i64 way, .int .i64 p] w fun e w' => e = .returned (.tuple #[.int .i64 (p / c), .int .i64 (p % c), .int .i64 0]) ∧ Below w.heap.size w w' := by
  obtain ⟨h0, hp, hp2⟩ := lnk_all h
  obtain ⟨h1, hw, hw2⟩ := rw8_all h0
  obtain ⟨a1, a2, a3, a4⟩ := rt_pows h1
  have HR : Hid (∀ w, Calls Try.prog 11 #[.agg #[.int .i64 r, .int .i64 s, .int .i64 b, .int .i64 o, .int .i64 c], .int .i64 way] w fun e w' => e = .returned (.bool true) ∧ Below w.heap.size w w') := fun w => by rw [← h0]; exact right8_any r s b o c way w
  have hl := rt_lines h1
  have b4 := Ge.pw_pos a4
  obtain ⟨n, HN⟩ : ∃ n, Hid (r * b * o = n) := ⟨_, rfl⟩
  obtain ⟨m, HM⟩ : ∃ m, Hid (r * b * o * c = m) := ⟨_, rfl⟩
  have HG : Hid (∀ w, Calls Try.prog 17 #[.agg #[.int .i64 r, .int .i64 s, .int .i64 b, .int .i64 o, .int .i64 c]] w fun e w' => e = .returned (.int .i64 n) ∧ Below w.heap.size w w') := fun w => by rw [← HN.out, ← pages_right h1]; exact pages_any r s b o c w
  have HL : Hid (∀ w, Calls Try.prog 12 #[.agg #[.int .i64 r, .int .i64 s, .int .i64 b, .int .i64 o, .int .i64 c]] w fun e w' => e = .returned (.int .i64 m) ∧ Below w.heap.size w w') := fun w => by rw [← HM.out, ← lines_right h1]; exact lines_any r s b o c w
  have HI : Hid (∀ w, Calls Try.prog 16 #[.int .i64 p, .int .i64 m] w fun e w' => e = .returned (.bool true) ∧ w' = w) := fun w => by have := isBelow8_any p m w; rw [decide_eq_true (by rw [← HM.out]; exact ⟨hp, hp2⟩)] at this; exact this
  have HA : Hid (∀ (w : World) (t : TypeId), Calls Try.prog 28 #[.int .i64 p, .slice (some ⟨w.heap.size, 0, none⟩) 2 2] (w.alloc (.cells #[.int .i64 c, .int .i64 n] t)) fun e w' => e = .returned (.slice (some ⟨w.heap.size + 1, 0, none⟩) 2 2) ∧ Bk .i64 w' (w.heap.size + 1) 2 (gf3 (p % c) (p / c) 0) ∧ Below w.heap.size w w') := fun w t => apart2 p c n hp (by omega) ⟨by omega, by omega⟩ ⟨by rw [← HN.out]; omega, by rw [← HN.out]; omega⟩ (by rw [← HN.out]; exact hp2) w t
  obtain ⟨x, hx⟩ : ∃ x, p / c = x := ⟨_, rfl⟩
  obtain ⟨y, hy⟩ : ∃ y, p % c = y := ⟨_, rfl⟩
  rw [hx, hy] at HA ⊢
  clear a1 a2 a3 a4 h h0 h1 hp hp2 hw hw2 hl b4 hx hy HN HM
  go_enter Try.func15, Try.ntmps15
  go_wp2_with fail
  obtain ⟨B, hB⟩ : ∃ B, w.heap.size = B := ⟨_, rfl⟩
  have HS : Hid (Gm (w.alloc (.cells #[.int .i64 r, .int .i64 s, .int .i64 b, .int .i64 o, .int .i64 c] 23)) B r s b o c ∧ Below B w (w.alloc (.cells #[.int .i64 r, .int .i64 s, .int .i64 b, .int .i64 o, .int .i64 c] 23))) := by rw [← hB]; exact ⟨Gm.new w r s b o c _, (Below.refl _ w).alloc (Nat.le_refl _) _⟩
  rw [hB]
  refine (HR.out _).mono ?_
  rintro e W1 ⟨rfl, bW⟩
  replace HS : Hid (Gm W1 B r s b o c ∧ Below B w W1) := ⟨HS.out.1.next bW, HS.out.2.trans (bW.mono (Nat.le_of_lt HS.out.1.lt))⟩
  clear bW
  have g0 := HS.out.1.c0; have g1 := HS.out.1.c1; have g2 := HS.out.1.c2; have g3 := HS.out.1.c3; have g4 := HS.out.1.c4
  go_wp2_with fail
  refine (HL.out _).mono ?_
  rintro e W2 ⟨rfl, bW⟩
  replace HS : Hid (Gm W2 B r s b o c ∧ Below B w W2) := ⟨HS.out.1.next bW, HS.out.2.trans (bW.mono (Nat.le_of_lt HS.out.1.lt))⟩
  clear bW g0 g1 g2 g3 g4
  go_wp2_with (go_at_call 16; refine (HI.out _).mono ?_; rintro e w' ⟨rfl, rfl⟩)
  have g0 := HS.out.1.c0; have g1 := HS.out.1.c1; have g2 := HS.out.1.c2; have g3 := HS.out.1.c3; have g4 := HS.out.1.c4
  go_region_with (first | (go_at_call 17; refine (HG.out _).mono ?_; rintro e W3 ⟨rfl, b3⟩; have h3 : Gm W3 B r s b o c ∧ Below B w W3 := ⟨Gm.next (Bk.drew HS.out.1) b3, (below_drew8 HS.out.2).trans (b3.mono (Nat.le_of_lt HS.out.1.lt))⟩; have k0 := h3.1.c0; have k1 := h3.1.c1; have k2 := h3.1.c2; have k3 := h3.1.c3; have k4 := h3.1.c4) | (go_at_call 28; refine (HA.out W3 _).mono ?_; rintro e W4 ⟨rfl, hX, b4⟩))
  all_goals (
    have HB4 : Hid (Below B w W4) := h3.2.trans (b4.mono (Nat.le_of_lt h3.1.lt))
    obtain ⟨X, hX1⟩ : ∃ X, W3.heap.size + 1 = X := ⟨_, rfl⟩
    rw [hX1] at hX ⊢
    have d0 : W4.cell? ⟨X, 0, none⟩ = some (.int .i64 y) := hX.cell 0 (by omega)
    have d1 : W4.cell? ⟨X, 1, none⟩ = some (.int .i64 x) := hX.cell 1 (by omega)
    clear hX b4 h3 k0 k1 k2 k3 k4 g0 g1 g2 g3 g4
    go_wp2
    go_quiet (fail)
    go_wp2
    refine bodyPost_ret (line_told rfl) rfl ⟨rfl, ?_⟩
    rw [hB]
    exact below_stay HB4.out (Stay.drewN B W4 _) (Nat.le_refl _))
set_option maxRecDepth 100000 in
set_option maxHeartbeats 4000000 in
theorem line_no (r s b o c way p : Int) (h : lnk r s b o c way p = false) (w : World) :
    Calls Try.prog 15 #[.agg #[.int .i64 r, .int .i64 s, .int .i64 b, .int .i64 o, .int .i64 c], .int .i64 way, .int .i64 p] w fun e w' => e = .returned (.tuple #[.int .i64 0, .int .i64 0, .int .i64 12]) ∧ Below w.heap.size w w' := by
  obtain ⟨z, Z⟩ : ∃ z, Hid (rw8 r s b o c way = z) := ⟨_, rfl⟩
  have HR : Hid (∀ w, Calls Try.prog 11 #[.agg #[.int .i64 r, .int .i64 s, .int .i64 b, .int .i64 o, .int .i64 c], .int .i64 way] w fun e w' => e = .returned (.bool z) ∧ Below w.heap.size w w') := fun w => by rw [← Z.out]; exact right8_any r s b o c way w
  obtain ⟨n, HN⟩ : ∃ n, Hid (lns r s b o c = n) := ⟨_, rfl⟩
  have HG : Hid (∀ w, Calls Try.prog 12 #[.agg #[.int .i64 r, .int .i64 s, .int .i64 b, .int .i64 o, .int .i64 c]] w fun e w' => e = .returned (.int .i64 n) ∧ Below w.heap.size w w') := fun w => by rw [← HN.out]; exact lines_any r s b o c w
  have Hh : Hid (lnk r s b o c way p = false) := h
  clear h
  go_enter Try.func15, Try.ntmps15
  go_wp2_with fail
  obtain ⟨B, hB⟩ : ∃ B, w.heap.size = B := ⟨_, rfl⟩
  have HS : Hid (Gm (w.alloc (.cells #[.int .i64 r, .int .i64 s, .int .i64 b, .int .i64 o, .int .i64 c] 23)) B r s b o c ∧ Below B w (w.alloc (.cells #[.int .i64 r, .int .i64 s, .int .i64 b, .int .i64 o, .int .i64 c] 23))) := by rw [← hB]; exact ⟨Gm.new w r s b o c _, (Below.refl _ w).alloc (Nat.le_refl _) _⟩
  rw [hB]
  refine (HR.out _).mono ?_
  rintro e W1 ⟨rfl, bW⟩
  replace HS : Hid (Gm W1 B r s b o c ∧ Below B w W1) := ⟨HS.out.1.next bW, HS.out.2.trans (bW.mono (Nat.le_of_lt HS.out.1.lt))⟩
  clear bW
  cases z with
  | false =>
    go_wp2
    refine bodyPost_ret (line_told rfl) rfl ⟨rfl, ?_⟩
    rw [hB]
    exact HS.out.2
  | true =>
    have HI : Hid (∀ w, Calls Try.prog 16 #[.int .i64 p, .int .i64 n] w fun e w' => e = .returned (.bool false) ∧ w' = w) := fun w => by
      have := isBelow8_any p n w
      rw [decide_eq_false (by
        rw [← HN.out, lines_right (rw8_all Z.out).1]
        intro hc
        have := Hh.out
        unfold lnk at this
        rw [Z.out, decide_eq_true hc] at this
        cases this)] at this
      exact this
    have g0 := HS.out.1.c0; have g1 := HS.out.1.c1; have g2 := HS.out.1.c2; have g3 := HS.out.1.c3; have g4 := HS.out.1.c4
    go_wp2_with fail
    refine (HG.out _).mono ?_
    rintro e W2 ⟨rfl, bW⟩
    replace HS : Hid (Gm W2 B r s b o c ∧ Below B w W2) := ⟨HS.out.1.next bW, HS.out.2.trans (bW.mono (Nat.le_of_lt HS.out.1.lt))⟩
    clear bW g0 g1 g2 g3 g4
    go_wp2_with (go_at_call 16; refine (HI.out _).mono ?_; rintro e w' ⟨rfl, rfl⟩)
    refine bodyPost_ret (line_told rfl) rfl ⟨rfl, ?_⟩
    rw [hB]
    exact HS.out.2
end Go.Proofs.Ytalbloeaojpbgaa
