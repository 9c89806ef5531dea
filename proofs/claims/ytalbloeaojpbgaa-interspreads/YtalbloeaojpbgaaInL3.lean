/-
  InterSpreads.
-/
import Derived.Test.YtalbloeaojpbgaaInL2
namespace Go.Proofs.Ytalbloeaojpbgaa
open Go.RowKit
open Ge (pw rt hd ix)
open In (mx plR plQ plU plB pgn bk bkn okp)
attribute [local go_sem] Oper.semAt_some

theorem spreads {r s b o c way p : Int} (h : pgk r s b o c way p = true) (h2 : pgk r s b o c way (p + 1) = true) :
    (2 ≤ way → 1 < r → plR way r b o p ≠ plR way r b o (p + 1)) ∧
    (way = 1 → plB way r b o p < b - 1 → plB way r b o (p + 1) = plB way r b o p + 1 ∧ plU way r b o p = plU way r b o (p + 1) ∧ plR way r b o p = plR way r b o (p + 1)) ∧
    (way = 0 → plU way r b o p < o - 1 → plU way r b o (p + 1) = plU way r b o p + 1 ∧ plB way r b o p = plB way r b o (p + 1) ∧ plR way r b o p = plR way r b o (p + 1)) ∧
    pgn way r b o p ≠ pgn way r b o (p + 1) := by
  obtain ⟨h0, hp, hp2⟩ := pgk_all h
  obtain ⟨h1, hw, hw2⟩ := rw8_all h0
  obtain ⟨a1, a2, a3, a4⟩ := rt_pows h1
  have b1 := Ge.pw_pos a1; have b2 := Ge.pw_pos a2; have b3 := Ge.pw_pos a3
  refine ⟨fun hw3 hr => ?_, fun hw1 hb => ?_, fun hw0 ho => ?_, fun he => ?_⟩
  · simp only [plR, if_neg (show ¬ way = 0 by omega), if_neg (show ¬ way = 1 by omega)]
    rcases In.dg_succ b1.1 b2.1 hp with h | h | h <;> omega
  · subst hw1
    simp only [plR, plB, plU, plQ, if_pos, if_neg (show ¬ (1 : Int) = 0 by omega), if_neg (show ¬ (1 : Int) = 3 by omega)] at hb ⊢
    rcases In.dg_succ b2.1 b3.1 hp with h | h | h <;> omega
  · subst hw0
    simp only [plR, plB, plU, plQ, if_pos, if_neg (show ¬ (0 : Int) = 3 by omega)] at ho ⊢
    rcases In.dg_succ b3.1 b2.1 hp with h | h | h <;> omega
  · obtain ⟨_, _, _, _, k1, _⟩ := page_place h
    obtain ⟨_, _, _, _, k2, _⟩ := page_place h2
    rw [he, k2] at k1
    omega

set_option maxRecDepth 100000 in
set_option maxHeartbeats 4000000 in
theorem interSpreads_core (r s b o c way i : Int) (w : World) :
    Calls Try.prog 6 #[.agg #[.int .i64 r, .int .i64 s, .int .i64 b, .int .i64 o, .int .i64 c], .int .i64 way, .int .i64 i] w fun e w' => e = .returned (.bool true) ∧ Below w.heap.size w w' := by
  obtain ⟨x, f, HX, C1⟩ := page_told_any r s b o c way i
  obtain ⟨y, g, HY, C2⟩ := page_told_any r s b o c way (i + 1)
  obtain ⟨B, HB⟩ : ∃ B, Hid (w.heap.size = B) := ⟨_, rfl⟩
  rw [HB.out]
  go_enter Try.func6, Try.ntmps6
  go_wp2_with fail
  have HS : Hid (G8 B r s b o c w (w.alloc (.cells #[.int .i64 r, .int .i64 s, .int .i64 b, .int .i64 o, .int .i64 c] 23))) := by rw [← HB.out]; exact G8.start w r s b o c _
  rw [HB.out]
  refine (anchor8_any _).mono ?_
  rintro e W1 ⟨rfl, bW⟩
  replace HS : Hid (G8 B r s b o c w W1) := HS.out.next bW
  clear bW
  by_cases i0 : i < 0
  · go_wp2
    go_ret
    exact ⟨rfl, HS.out.below⟩
  by_cases i1 : 1048576 < i
  · have i0' : 0 ≤ i := by omega
    go_wp2
    go_ret
    exact ⟨rfl, HS.out.below⟩
  have i0' : 0 ≤ i := by omega
  have i1' : i ≤ 1048576 := by omega
  clear i0 i1
  have g0 := HS.out.g.c0; have g1 := HS.out.g.c1; have g2 := HS.out.g.c2; have g3 := HS.out.g.c3; have g4 := HS.out.g.c4
  go_wp2_with fail
  refine (C1.out _).mono ?_
  rintro e W2 ⟨rfl, bW⟩
  replace HS : Hid (G8 B r s b o c w W2) := HS.out.next bW
  clear bW g0 g1 g2 g3 g4
  have g0 := HS.out.g.c0; have g1 := HS.out.g.c1; have g2 := HS.out.g.c2; have g3 := HS.out.g.c3; have g4 := HS.out.g.c4
  go_wp2_with fail
  refine (C2.out _).mono ?_
  rintro e W3 ⟨rfl, bW⟩
  replace HS : Hid (G8 B r s b o c w W3) := HS.out.next bW
  clear bW g0 g1 g2 g3 g4
  rcases HX.out with ⟨hp, hx, rfl⟩ | ⟨hp, rfl, rfl⟩
  rotate_left
  · clear HX HY hp
    go_wp2
    go_ret
    exact ⟨rfl, HS.out.below⟩
  rcases HY.out with ⟨hq, hy, rfl⟩ | ⟨hq, rfl, rfl⟩
  rotate_left
  · clear HX HY hp hq hx
    go_wp2
    go_ret
    exact ⟨rfl, HS.out.below⟩
  obtain ⟨⟨x0, x1⟩, P1, Q1, T1, _, C3⟩ := page_place hp
  obtain ⟨⟨y0, y1⟩, P2, Q2, T2, _, C4⟩ := page_place hq
  have HK := spreads hp hq
  obtain ⟨h1, hw, hw2⟩ := rw8_all (pgk_all hp).1
  obtain ⟨⟨r0, r1⟩, _, ⟨b0, b1⟩, ⟨o0, o1⟩, _, _⟩ := Ge.rt_all h1
  replace C3 : Hid _ := C3
  replace C4 : Hid _ := C4
  rw [← hx] at C3 x0 x1 HK
  rw [← hy] at C4 y0 y1 HK
  obtain ⟨P, hP⟩ : ∃ P, plR way r b o i = P := ⟨_, rfl⟩
  obtain ⟨Q, hQ⟩ : ∃ Q, plB way r b o i = Q := ⟨_, rfl⟩
  obtain ⟨T, hT⟩ : ∃ T, plU way r b o i = T := ⟨_, rfl⟩
  obtain ⟨P', hP'⟩ : ∃ P, plR way r b o (i + 1) = P := ⟨_, rfl⟩
  obtain ⟨Q', hQ'⟩ : ∃ Q, plB way r b o (i + 1) = Q := ⟨_, rfl⟩
  obtain ⟨T', hT'⟩ : ∃ T, plU way r b o (i + 1) = T := ⟨_, rfl⟩
  rw [hP, hQ, hT] at C3
  rw [hP', hQ', hT'] at C4
  rw [hP, hQ, hT, hP', hQ', hT'] at HK
  rw [hP] at P1; rw [hQ] at Q1; rw [hT] at T1; rw [hP'] at P2; rw [hQ'] at Q2; rw [hT'] at T2
  replace HK : Hid _ := HK
  clear hP hQ hT hP' hQ' hT' hx hy hp hq HX HY C1 C2 h1
  have g0 := HS.out.g.c0; have g1 := HS.out.g.c1; have g2 := HS.out.g.c2; have g3 := HS.out.g.c3; have g4 := HS.out.g.c4
  go_wp2_with fail
  refine (C3.out _).mono ?_
  rintro e W4 ⟨rfl, bW⟩
  replace HS : Hid (G8 B r s b o c w W4) := HS.out.next bW
  clear bW g0 g1 g2 g3 g4
  have l4 := HS.out.g.lt
  go_upto_region 10 with (fail)
  obtain ⟨D, hD⟩ : ∃ D, W4.heap.size = D := ⟨_, rfl⟩
  obtain ⟨V, hV⟩ : ∃ V, W4.alloc (.cells #[.int .i64 P, .int .i64 Q, .int .i64 T, .int .i64 0] 35) = V := ⟨_, rfl⟩
  have HD : Hid (Pl V D P Q T 0) := by rw [← hV, ← hD]; exact Pl.new W4 P Q T 0 _
  replace HS : Hid (G8 B r s b o c w V) := by rw [← hV]; exact HS.out.next ((Below.refl _ W4).alloc (Nat.le_refl _) _)
  rw [hV, hD]
  clear hV hD l4
  have g0 := HS.out.g.c0; have g1 := HS.out.g.c1; have g2 := HS.out.g.c2; have g3 := HS.out.g.c3; have g4 := HS.out.g.c4
  go_wp2_with fail
  refine (C4.out _).mono ?_
  rintro e W5 ⟨rfl, bW⟩
  replace HS : Hid (G8 B r s b o c w W5) := HS.out.next bW
  replace HD : Hid (Pl W5 D P Q T 0) := HD.out.next bW
  clear bW g0 g1 g2 g3 g4
  have l4 := HS.out.g.lt
  go_upto_region 11 with (fail)
  obtain ⟨E, hE⟩ : ∃ E, W5.heap.size = E := ⟨_, rfl⟩
  obtain ⟨V, hV⟩ : ∃ V, W5.alloc (.cells #[.int .i64 P', .int .i64 Q', .int .i64 T', .int .i64 0] 35) = V := ⟨_, rfl⟩
  have HE : Hid (Pl V E P' Q' T' 0) := by rw [← hV, ← hE]; exact Pl.new W5 P' Q' T' 0 _
  replace HS : Hid (G8 B r s b o c w V) := by rw [← hV]; exact HS.out.next ((Below.refl _ W5).alloc (Nat.le_refl _) _)
  replace HD : Hid (Pl V D P Q T 0) := by rw [← hV]; exact HD.out.alloc _
  rw [hV, hE]
  clear hV hE l4
  have g0 := HS.out.g.c0; have g2 := HS.out.g.c2; have g3 := HS.out.g.c3
  have d0 := HD.out.c0; have d1 := HD.out.c1; have d2 := HD.out.c2
  have e0 := HE.out.c0; have e1 := HE.out.c1; have e2 := HE.out.c2
  obtain ⟨k1, k2, k3, k4⟩ := HK.out
  by_cases w2 : 2 ≤ way
  · by_cases r2 : 1 < r
    · have hne : (P != P') = true := by rw [bne_iff_ne]; exact k1 w2 r2
      clear k1 k2 k3 k4
      go_wp2
      go_ret
      exact ⟨rfl, HS.out.below⟩
    · have hne : (x != y) = true := by rw [bne_iff_ne]; exact k4
      obtain rfl : r = 1 := by omega
      clear k1 k2 k3 k4
      go_wp2
      go_ret
      exact ⟨rfl, HS.out.below⟩
  · by_cases w1 : way = 1
    · subst w1
      by_cases q1 : Q < b - 1
      · obtain ⟨rfl, rfl, rfl⟩ := k2 rfl q1
        clear k1 k2 k3 k4
        go_wp2
        go_ret
        exact ⟨rfl, HS.out.below⟩
      · have hne : (x != y) = true := by rw [bne_iff_ne]; exact k4
        have q1' : decide (Q < b - 1) = false := decide_eq_false q1
        clear k1 k2 k3 k4
        go_wp2
        go_ret
        exact ⟨rfl, HS.out.below⟩
    · obtain rfl : way = 0 := by omega
      by_cases q1 : T < o - 1
      · obtain ⟨rfl, rfl, rfl⟩ := k3 rfl q1
        clear k1 k2 k3 k4
        go_wp2
        go_ret
        exact ⟨rfl, HS.out.below⟩
      · have hne : (x != y) = true := by rw [bne_iff_ne]; exact k4
        have q1' : decide (T < o - 1) = false := decide_eq_false q1
        clear k1 k2 k3 k4
        go_wp2
        go_ret
        exact ⟨rfl, HS.out.below⟩
theorem interSpreads_walk (a0 : Nat → Int) (a1 a2 : Int) (_w0 : ∀ i, i < 5 → (Lit.int .i64 (a0 i)).wf = true) (_w1 : (Lit.int .i64 a1).wf = true) (_w2 : (Lit.int .i64 a2).wf = true) (w : World) :
    Calls Try.prog 6 #[.agg (ints .i64 5 a0).toArray, .int .i64 a1, .int .i64 a2] w fun e w' => e = .returned (.bool true) ∧ Below w.heap.size w w' :=
  interSpreads_core (a0 0) (a0 1) (a0 2) (a0 3) (a0 4) a1 a2 w
end Go.Proofs.Ytalbloeaojpbgaa
