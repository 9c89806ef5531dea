/-
  InterPages.
-/
import Derived.Test.YtalbloeaojpbgaaInW6
import Derived.Test.YtalbloeaojpbgaaInW8
namespace Go.Proofs.Ytalbloeaojpbgaa
open Go.RowKit
open Ge (pw rt hd ix)
open In (mx plR plQ plU plB pgn bk bkn okp)
attribute [local go_sem] Oper.semAt_some

/-- a geometry in B, the document's in X -/
structure IP (B X : Nat) (r s b o c : Int) (w W : World) : Prop where
  g : Gm W B r s b o c
  x : Gm W X r s b o c
  below : Below B w W
theorem IP.next {B X : Nat} {r s b o c : Int} {w W W' : World} (h : IP B X r s b o c w W) (k : Below W.heap.size W W') : IP B X r s b o c w W' :=
  ⟨h.g.next k, h.x.next k, h.below.trans (k.mono (Nat.le_of_lt h.g.lt))⟩
theorem rw8_way {r s b o c way : Int} (h1 : rt r s b o c = true) (h2 : 0 ≤ way) (h3 : way ≤ 3) : rw8 r s b o c way = true := by
  unfold rw8
  rw [h1, decide_eq_true (by omega)]
  rfl
theorem pgk_in {r s b o c way p : Int} (h : rw8 r s b o c way = true) (h2 : 0 ≤ p) (h3 : p < r * b * o) : pgk r s b o c way p = true := by
  unfold pgk
  rw [h, decide_eq_true ⟨h2, h3⟩]
  rfl
theorem pgk_out {r s b o c way p : Int} (h : ¬ (0 ≤ p ∧ p < r * b * o)) : pgk r s b o c way p = false := by
  unfold pgk
  rw [decide_eq_false h, Bool.and_false]
/-- a page of the system leads back from where it is laid -/
theorem back_there {r s b o c way p : Int} (h : pgk r s b o c way p = true) : bkk r s b o c way (pgn way r b o p) = true ∧ bkn way r b o (pgn way r b o p) = p := by
  obtain ⟨h0, hp, hp2⟩ := pgk_all h
  obtain ⟨h1, hw, hw2⟩ := rw8_all h0
  obtain ⟨a1, a2, a3, a4⟩ := rt_pows h1
  obtain ⟨k0, k1, _⟩ := In.pgn_ok (way := way) a1 a2 a3 hp hp2
  refine ⟨?_, k1⟩
  have k := k0
  unfold okp at k
  unfold bkk
  rw [h0, decide_eq_true k]
  rfl
theorem back_fwd {r s b o c way x : Int} (h : bkk r s b o c way x = true) : pgk r s b o c way (bkn way r b o x) = true ∧ pgn way r b o (bkn way r b o x) = x := by
  obtain ⟨h0, k⟩ := bkk_all h
  obtain ⟨h1, hw, hw2⟩ := rw8_all h0
  obtain ⟨a1, a2, a3, a4⟩ := rt_pows h1
  obtain ⟨⟨k1, k2⟩, k3⟩ := In.bkn_ok (way := way) a2 k
  exact ⟨pgk_in h0 k1 k2, k3⟩

set_option maxRecDepth 100000 in
set_option maxHeartbeats 8000000 in
theorem interPages_core (r s b o c way pg ph : Int) (hr : I64 r) (hb : I64 b) (ho : I64 o) (hc : I64 c) (w : World) :
    Calls Try.prog 3 #[.agg #[.int .i64 r, .int .i64 s, .int .i64 b, .int .i64 o, .int .i64 c], .int .i64 way, .int .i64 pg, .int .i64 ph] w fun e w' => e = .returned (.bool true) ∧ Below w.heap.size w w' := by
  obtain ⟨z0, Z0⟩ : ∃ z, Hid (rt r s b o c = z) := ⟨_, rfl⟩
  obtain ⟨z1, Z1⟩ : ∃ z, Hid (rw8 r s b o c way = z) := ⟨_, rfl⟩
  obtain ⟨ln, LN⟩ : ∃ z, Hid (lns r s b o c = z) := ⟨_, rfl⟩
  obtain ⟨x, f, HX, C1⟩ := page_told_any r s b o c way pg
  obtain ⟨y, g, HY, C2⟩ := back_told_any r s b o c way ph
  have HR : Hid (∀ w, Calls Try.prog 10 #[.agg #[.int .i64 r, .int .i64 s, .int .i64 b, .int .i64 o, .int .i64 c]] w fun e w' => e = .returned (.bool z0) ∧ Below w.heap.size w w') := fun w => by rw [← Z0.out]; exact refRight_any r s b o c hr hb ho hc w
  have HW : Hid (∀ w, Calls Try.prog 11 #[.agg #[.int .i64 r, .int .i64 s, .int .i64 b, .int .i64 o, .int .i64 c], .int .i64 way] w fun e w' => e = .returned (.bool z1) ∧ Below w.heap.size w w') := fun w => by rw [← Z1.out]; exact right8_any r s b o c way w
  have HL : Hid (∀ w, Calls Try.prog 12 #[.agg #[.int .i64 r, .int .i64 s, .int .i64 b, .int .i64 o, .int .i64 c]] w fun e w' => e = .returned (.int .i64 ln) ∧ Below w.heap.size w w') := fun w => by rw [← LN.out]; exact lines_any r s b o c w
  clear hr hb ho hc
  obtain ⟨B, HB⟩ : ∃ B, Hid (w.heap.size = B) := ⟨_, rfl⟩
  rw [HB.out]
  go_enter Try.func3, Try.ntmps3
  go_wp2_with fail
  have H0 : Hid (G8 B r s b o c w (w.alloc (.cells #[.int .i64 r, .int .i64 s, .int .i64 b, .int .i64 o, .int .i64 c] 23))) := by rw [← HB.out]; exact G8.start w r s b o c _
  rw [HB.out]
  refine (anchor8_any _).mono ?_
  rintro e W1 ⟨rfl, bW⟩
  replace H0 : Hid (G8 B r s b o c w W1) := H0.out.next bW
  clear bW
  have g0 := H0.out.g.c0; have g1 := H0.out.g.c1; have g2 := H0.out.g.c2; have g3 := H0.out.g.c3; have g4 := H0.out.g.c4
  have l0 := H0.out.g.lt
  go_wp2_with fail
  obtain ⟨X, hX⟩ : ∃ X, W1.heap.size = X := ⟨_, rfl⟩
  obtain ⟨V, hV⟩ : ∃ V, W1.alloc (.cells #[.int .i64 r, .int .i64 s, .int .i64 b, .int .i64 o, .int .i64 c] 25) = V := ⟨_, rfl⟩
  have HS : Hid (IP B X r s b o c w V) := by
    rw [← hV, ← hX]
    exact ⟨H0.out.g.alloc _, Gm.new W1 r s b o c _, H0.out.below.alloc (Nat.le_of_lt l0) _⟩
  rw [hV, hX]
  clear hV hX g0 g1 g2 g3 g4 l0 H0
  refine (C1.out _).mono ?_
  rintro e W2 ⟨rfl, bW⟩
  replace HS : Hid (IP B X r s b o c w W2) := HS.out.next bW
  clear bW
  have g0 := HS.out.g.c0; have g1 := HS.out.g.c1; have g2 := HS.out.g.c2; have g3 := HS.out.g.c3; have g4 := HS.out.g.c4
  have x0 := HS.out.x.c0; have x1 := HS.out.x.c1; have x2 := HS.out.x.c2; have x3 := HS.out.x.c3; have x4 := HS.out.x.c4
  go_wp2_with fail
  refine (C2.out _).mono ?_
  rintro e W3 ⟨rfl, bW⟩
  replace HS : Hid (IP B X r s b o c w W3) := HS.out.next bW
  clear bW g0 g1 g2 g3 g4 x0 x1 x2 x3 x4
  have g0 := HS.out.g.c0; have g1 := HS.out.g.c1; have g2 := HS.out.g.c2; have g3 := HS.out.g.c3; have g4 := HS.out.g.c4
  have x0 := HS.out.x.c0; have x1 := HS.out.x.c1; have x2 := HS.out.x.c2; have x3 := HS.out.x.c3; have x4 := HS.out.x.c4
  go_wp2_with fail
  refine (HR.out _).mono ?_
  rintro e W4 ⟨rfl, bW⟩
  replace HS : Hid (IP B X r s b o c w W4) := HS.out.next bW
  clear bW g0 g1 g2 g3 g4 x0 x1 x2 x3 x4
  have g0 := HS.out.g.c0; have g1 := HS.out.g.c1; have g2 := HS.out.g.c2; have g3 := HS.out.g.c3; have g4 := HS.out.g.c4
  have x0 := HS.out.x.c0; have x1 := HS.out.x.c1; have x2 := HS.out.x.c2; have x3 := HS.out.x.c3; have x4 := HS.out.x.c4
  cases z0 with
  | false =>
    obtain rfl : ln = 0 := by rw [← LN.out]; unfold lns; rw [if_neg (by rw [Z0.out]; simp)]
    obtain rfl : z1 = false := by rw [← Z1.out]; unfold rw8; rw [Z0.out]; rfl
    obtain ⟨rfl, rfl⟩ : x = 0 ∧ f = 12 := by
      rcases HX.out with h | h
      · have := (pgk_all h.1).1; rw [Z1.out] at this; cases this
      · exact h.2
    obtain ⟨rfl, rfl⟩ : y = 0 ∧ g = 12 := by
      rcases HY.out with h | h
      · have := (bkk_all h.1).1; rw [Z1.out] at this; cases this
      · exact h.2
    go_wp2_with fail
    refine (HW.out _).mono ?_
    rintro e W5 ⟨rfl, bW⟩
    replace HS : Hid (IP B X r s b o c w W5) := HS.out.next bW
    clear bW g0 g1 g2 g3 g4 x0 x1 x2 x3 x4
    have g0 := HS.out.g.c0; have g1 := HS.out.g.c1; have g2 := HS.out.g.c2; have g3 := HS.out.g.c3; have g4 := HS.out.g.c4
    have x0 := HS.out.x.c0; have x1 := HS.out.x.c1; have x2 := HS.out.x.c2; have x3 := HS.out.x.c3; have x4 := HS.out.x.c4
    go_wp2_with fail
    refine (HR.out _).mono ?_
    rintro e W6 ⟨rfl, bW⟩
    replace HS : Hid (IP B X r s b o c w W6) := HS.out.next bW
    clear bW g0 g1 g2 g3 g4 x0 x1 x2 x3 x4
    have g0 := HS.out.g.c0; have g1 := HS.out.g.c1; have g2 := HS.out.g.c2; have g3 := HS.out.g.c3; have g4 := HS.out.g.c4
    have x0 := HS.out.x.c0; have x1 := HS.out.x.c1; have x2 := HS.out.x.c2; have x3 := HS.out.x.c3; have x4 := HS.out.x.c4
    go_wp2_with fail
    refine (HL.out _).mono ?_
    rintro e W7 ⟨rfl, bW⟩
    replace HS : Hid (IP B X r s b o c w W7) := HS.out.next bW
    clear bW g0 g1 g2 g3 g4 x0 x1 x2 x3 x4
    have g0 := HS.out.g.c0; have g1 := HS.out.g.c1; have g2 := HS.out.g.c2; have g3 := HS.out.g.c3; have g4 := HS.out.g.c4
    have x0 := HS.out.x.c0; have x1 := HS.out.x.c1; have x2 := HS.out.x.c2; have x3 := HS.out.x.c3; have x4 := HS.out.x.c4
    go_wp2
    go_ret
    exact ⟨rfl, HS.out.below⟩
  | true =>
    by_cases w0 : way < 0
    · have w0' : ¬ (0 ≤ way ∧ way < 4) := by omega
      have wd : decide (0 ≤ way) = false := decide_eq_false (by omega)
      obtain rfl : z1 = false := by rw [← Z1.out]; unfold rw8; rw [decide_eq_false w0', Bool.and_false]
      obtain ⟨rfl, rfl⟩ : x = 0 ∧ f = 12 := by
        rcases HX.out with h | h
        · have := (pgk_all h.1).1; rw [Z1.out] at this; cases this
        · exact h.2
      obtain ⟨rfl, rfl⟩ : y = 0 ∧ g = 12 := by
        rcases HY.out with h | h
        · have := (bkk_all h.1).1; rw [Z1.out] at this; cases this
        · exact h.2
      go_wp2_with fail
      refine (HW.out _).mono ?_
      rintro e W5 ⟨rfl, bW⟩
      replace HS : Hid (IP B X r s b o c w W5) := HS.out.next bW
      clear bW g0 g1 g2 g3 g4 x0 x1 x2 x3 x4
      have g0 := HS.out.g.c0; have g1 := HS.out.g.c1; have g2 := HS.out.g.c2; have g3 := HS.out.g.c3; have g4 := HS.out.g.c4
      have x0 := HS.out.x.c0; have x1 := HS.out.x.c1; have x2 := HS.out.x.c2; have x3 := HS.out.x.c3; have x4 := HS.out.x.c4
      go_wp2_with fail
      refine (HR.out _).mono ?_
      rintro e W6 ⟨rfl, bW⟩
      replace HS : Hid (IP B X r s b o c w W6) := HS.out.next bW
      clear bW g0 g1 g2 g3 g4 x0 x1 x2 x3 x4
      have g0 := HS.out.g.c0; have g1 := HS.out.g.c1; have g2 := HS.out.g.c2; have g3 := HS.out.g.c3; have g4 := HS.out.g.c4
      have x0 := HS.out.x.c0; have x1 := HS.out.x.c1; have x2 := HS.out.x.c2; have x3 := HS.out.x.c3; have x4 := HS.out.x.c4
      go_wp2
      go_ret
      exact ⟨rfl, HS.out.below⟩
    have w0' : 0 ≤ way := by omega
    by_cases w4 : 3 < way
    · have w4' : ¬ (0 ≤ way ∧ way < 4) := by omega
      have wd : decide (way ≤ 3) = false := decide_eq_false (by omega)
      obtain rfl : z1 = false := by rw [← Z1.out]; unfold rw8; rw [decide_eq_false w4', Bool.and_false]
      obtain ⟨rfl, rfl⟩ : x = 0 ∧ f = 12 := by
        rcases HX.out with h | h
        · have := (pgk_all h.1).1; rw [Z1.out] at this; cases this
        · exact h.2
      obtain ⟨rfl, rfl⟩ : y = 0 ∧ g = 12 := by
        rcases HY.out with h | h
        · have := (bkk_all h.1).1; rw [Z1.out] at this; cases this
        · exact h.2
      go_wp2_with fail
      refine (HW.out _).mono ?_
      rintro e W5 ⟨rfl, bW⟩
      replace HS : Hid (IP B X r s b o c w W5) := HS.out.next bW
      clear bW g0 g1 g2 g3 g4 x0 x1 x2 x3 x4
      have g0 := HS.out.g.c0; have g1 := HS.out.g.c1; have g2 := HS.out.g.c2; have g3 := HS.out.g.c3; have g4 := HS.out.g.c4
      have x0 := HS.out.x.c0; have x1 := HS.out.x.c1; have x2 := HS.out.x.c2; have x3 := HS.out.x.c3; have x4 := HS.out.x.c4
      go_wp2_with fail
      refine (HR.out _).mono ?_
      rintro e W6 ⟨rfl, bW⟩
      replace HS : Hid (IP B X r s b o c w W6) := HS.out.next bW
      clear bW g0 g1 g2 g3 g4 x0 x1 x2 x3 x4
      have g0 := HS.out.g.c0; have g1 := HS.out.g.c1; have g2 := HS.out.g.c2; have g3 := HS.out.g.c3; have g4 := HS.out.g.c4
      have x0 := HS.out.x.c0; have x1 := HS.out.x.c1; have x2 := HS.out.x.c2; have x3 := HS.out.x.c3; have x4 := HS.out.x.c4
      go_wp2
      go_ret
      exact ⟨rfl, HS.out.below⟩
    have w4' : way ≤ 3 := by omega
    clear w0 w4
    have hk : rw8 r s b o c way = true := rw8_way Z0.out w0' w4'
    obtain rfl : z1 = true := by rw [← Z1.out]; exact hk
    obtain ⟨F, HF⟩ : ∃ F : Nat → Nat, Hid (F = fun x : Nat => (pgn way r b o x).toNat) := ⟨_, rfl⟩
    obtain ⟨N, HN⟩ : ∃ N, Hid (N = (r * b * o).toNat) := ⟨_, rfl⟩
    obtain ⟨p1, p2, p3, p4⟩ := rt_lines Z0.out
    have c0 := (Ge.rt_all Z0.out).2.2.2.2.1
    have eN : (N : Int) = r * b * o := by rw [HN.out]; omega
    have eL : (N : Int) * c = ln := by rw [eN, ← LN.out]; unfold lns; rw [if_pos Z0.out]
    have CL : Hid (∀ w, Calls Try.prog 13 #[.agg #[.int .i64 r, .int .i64 s, .int .i64 b, .int .i64 o, .int .i64 c], .int .i64 way] w fun e w' => ∃ v, e = .returned v ∧ Ow w' w.heap.size v N F ∧ Below w.heap.size w w') := fun w => by rw [HF.out, HN.out]; exact layout_any r s b o c way hk w
    have HP : Hid (∀ k : Nat, k < N → pgk r s b o c way k = true ∧ (F k : Int) = pgn way r b o k) := fun k hkN => by
      have h := pgk_in (c := c) (s := s) hk (show 0 ≤ (k : Int) by omega) (show (k : Int) < r * b * o by omega)
      refine ⟨h, ?_⟩
      have := (page_place h).1
      rw [HF.out]
      show ((pgn way r b o (k : Int)).toNat : Int) = _
      omega
    have n0 : 0 < N := by omega
    have n1 : N ≤ 4096 := by omega
    have l0 : 0 < ln := by rw [← eL, eN]; exact p3
    have l1 : ln ≤ 4096 := by rw [← eL, eN]; exact p4
    replace eN : Hid _ := eN
    have eL' : wrap64 ((N : Int) * c) = ln := by rw [eL, Go.IntWalk.wrap64_in _ (by omega)]
    have eL3 : ((N : Int) * c != ln) = false := by rw [eL]; simp
    have m0 : 0 ≤ (N : Int) * c := by omega
    have m1 : (N : Int) * c ≤ 4096 := by omega
    clear HF HN p1 p2 p3 p4 eL
    go_wp2_with fail
    refine (HW.out _).mono ?_
    rintro e W5 ⟨rfl, bW⟩
    replace HS : Hid (IP B X r s b o c w W5) := HS.out.next bW
    clear bW g0 g1 g2 g3 g4 x0 x1 x2 x3 x4
    have g0 := HS.out.g.c0; have g1 := HS.out.g.c1; have g2 := HS.out.g.c2; have g3 := HS.out.g.c3; have g4 := HS.out.g.c4
    have x0 := HS.out.x.c0; have x1 := HS.out.x.c1; have x2 := HS.out.x.c2; have x3 := HS.out.x.c3; have x4 := HS.out.x.c4
    go_wp2_with fail
    refine (CL.out _).mono ?_
    rintro e W6 ⟨v, rfl, hO, bW⟩
    obtain ⟨G, cap, rfl, hG, hG2⟩ := hO.open n0
    replace hO : Hid _ := hO
    replace HS : Hid (IP B X r s b o c w W6 ∧ Ow W6 W5.heap.size (.slice (some ⟨G, 0, none⟩) N cap) N F) := ⟨HS.out.next bW, hO.out⟩
    clear bW hO g0 g1 g2 g3 g4 x0 x1 x2 x3 x4
    obtain ⟨C, hC⟩ : ∃ C, W5.heap.size = C := ⟨_, rfl⟩
    rw [hC] at HS hG
    clear hC
    go_wp2
    refine region_calm (by kernel_rfl) (by kernel_rfl) (fun W => Below W6.heap.size W6 W) (below_drew1 W6) ?_
    intro U hU fw hf hof
    have HN : Hid (∀ x W, Below (fw x).heap.size (fw x) W → ∃ y, W = fw y) := fun x W h => hof W ((hf x).trans (h.mono (hf x).size))
    have HF : Hid (∀ x, IP B X r s b o c w (fw x) ∧ Ow (fw x) C (.slice (some ⟨G, 0, none⟩) N cap) N F) := fun x => ⟨HS.out.1.next (hf x), HS.out.2.next (hf x)⟩
    have g0 : ∀ x, (fw x).cell? ⟨B, 0, none⟩ = some (.int .i64 r) := fun x => (HF.out x).1.g.c0
    have g1 : ∀ x, (fw x).cell? ⟨B, 1, none⟩ = some (.int .i64 s) := fun x => (HF.out x).1.g.c1
    have g2 : ∀ x, (fw x).cell? ⟨B, 2, none⟩ = some (.int .i64 b) := fun x => (HF.out x).1.g.c2
    have g3 : ∀ x, (fw x).cell? ⟨B, 3, none⟩ = some (.int .i64 o) := fun x => (HF.out x).1.g.c3
    have g4 : ∀ x, (fw x).cell? ⟨B, 4, none⟩ = some (.int .i64 c) := fun x => (HF.out x).1.g.c4
    clear hf hof
    repeat (go_big_quiet_step ((first | (go_at_call 12; exact calm_next HN.out (HL.out _)))))
    refine wpQuiet_nil ?_
    rintro _ ⟨x9, rfl⟩
    replace HS : Hid (IP B X r s b o c w (fw x9) ∧ Ow (fw x9) C (.slice (some ⟨G, 0, none⟩) N cap) N F) := HF.out x9
    obtain ⟨W7, hW7⟩ : ∃ W7, fw x9 = W7 := ⟨_, rfl⟩
    rw [hW7] at HS ⊢
    clear hW7 HN HF g0 g1 g2 g3 g4 fw hU
    by_cases q0 : pg < 0
    · obtain ⟨rfl, rfl⟩ : x = 0 ∧ f = 12 := by
        rcases HX.out with h | h
        · have := (pgk_all h.1).2.1; omega
        · exact h.2
      obtain ⟨W, hW⟩ : ∃ W, Hid (W7 = W) := ⟨_, rfl⟩
      rw [hW.out] at HS ⊢
      clear hW
      replace HS : Hid (IP B X r s b o c w W ∧ Ow W C (.slice (some ⟨G, 0, none⟩) N cap) N F) := HS
      have HC : Hid (∀ k : Nat, k < N → W.cell? ⟨G, k, none⟩ = some (.int .i64 (F k : Int))) := fun k hkN => HS.out.2.cell k hkN
      go_wp2
      go_loop [130] (fun k => ∃ q : Nat, q ≤ N ∧ k = .int .i64 (q : Int) ∧ Hid (∀ j : Nat, j < q → ¬ ((F j : Int) = ph))) (fun k => (N - (intOf k).toNat))
      case atStart => exact ⟨0, by omega, rfl, fun j hj => by omega⟩
      case round =>
        obtain ⟨q, hq, rfl, Hq⟩ := hrel
        by_cases hlt : q < N
        · have hcell := HC.out q hlt
          by_cases he : (F q : Int) = ph
          · obtain ⟨h1, h2⟩ := HP.out q hlt
            obtain ⟨h3, h4⟩ := back_there h1
            rw [← h2, he] at h3 h4
            obtain ⟨rfl, rfl⟩ : y = (q : Int) ∧ g = 0 := by
              rcases HY.out with h | h
              · exact ⟨by rw [h.2.1, h4], h.2.2⟩
              · rw [h3] at h; cases h.1
            have he' : ((F q : Int) == ph) = true := beq_iff_eq.2 he
            clear h1 h2 h3 h4 HY HX HP Hq HC he
            go_wp2
            go_ret
            exact ⟨rfl, HS.out.1.below⟩
          · have he' : ((F q : Int) == ph) = false := beq_eq_false_iff_ne.2 he
            go_wp2
            go_round
            case rel => exact ⟨q + 1, by omega, by go_num, fun j hj => by
              by_cases h : j = q
              · rw [h]; exact he
              · exact Hq.out j (by omega)⟩
            case measure => simp [intOf]; omega
        · obtain rfl : q = N := by omega
          obtain ⟨rfl, rfl⟩ : y = 0 ∧ g = 12 := by
            rcases HY.out with h | h
            · exfalso
              obtain ⟨h1, h2⟩ := back_fwd h.1
              obtain ⟨_, h3, h4⟩ := pgk_all h1
              rw [← eN.out] at h4
              have := (HP.out (bkn way r b o ph).toNat (by omega)).2
              rw [Int.toNat_of_nonneg h3, h2] at this
              exact Hq.out _ (by omega) this
            · exact h.2
          clear HY HX HP Hq HC
          go_wp2
          go_ret
          exact ⟨rfl, HS.out.1.below⟩
    have q0' : 0 ≤ pg := by omega
    clear q0
    by_cases q1 : (N : Int) ≤ pg
    · obtain ⟨rfl, rfl⟩ : x = 0 ∧ f = 12 := by
        rcases HX.out with h | h
        · have := (pgk_all h.1).2.2; rw [← eN.out] at this; omega
        · exact h.2
      obtain ⟨W, hW⟩ : ∃ W, Hid (W7 = W) := ⟨_, rfl⟩
      rw [hW.out] at HS ⊢
      clear hW
      replace HS : Hid (IP B X r s b o c w W ∧ Ow W C (.slice (some ⟨G, 0, none⟩) N cap) N F) := HS
      have HC : Hid (∀ k : Nat, k < N → W.cell? ⟨G, k, none⟩ = some (.int .i64 (F k : Int))) := fun k hkN => HS.out.2.cell k hkN
      go_wp2
      go_loop [130] (fun k => ∃ q : Nat, q ≤ N ∧ k = .int .i64 (q : Int) ∧ Hid (∀ j : Nat, j < q → ¬ ((F j : Int) = ph))) (fun k => (N - (intOf k).toNat))
      case atStart => exact ⟨0, by omega, rfl, fun j hj => by omega⟩
      case round =>
        obtain ⟨q, hq, rfl, Hq⟩ := hrel
        by_cases hlt : q < N
        · have hcell := HC.out q hlt
          by_cases he : (F q : Int) = ph
          · obtain ⟨h1, h2⟩ := HP.out q hlt
            obtain ⟨h3, h4⟩ := back_there h1
            rw [← h2, he] at h3 h4
            obtain ⟨rfl, rfl⟩ : y = (q : Int) ∧ g = 0 := by
              rcases HY.out with h | h
              · exact ⟨by rw [h.2.1, h4], h.2.2⟩
              · rw [h3] at h; cases h.1
            have he' : ((F q : Int) == ph) = true := beq_iff_eq.2 he
            clear h1 h2 h3 h4 HY HX HP Hq HC he
            go_wp2
            go_ret
            exact ⟨rfl, HS.out.1.below⟩
          · have he' : ((F q : Int) == ph) = false := beq_eq_false_iff_ne.2 he
            go_wp2
            go_round
            case rel => exact ⟨q + 1, by omega, by go_num, fun j hj => by
              by_cases h : j = q
              · rw [h]; exact he
              · exact Hq.out j (by omega)⟩
            case measure => simp [intOf]; omega
        · obtain rfl : q = N := by omega
          obtain ⟨rfl, rfl⟩ : y = 0 ∧ g = 12 := by
            rcases HY.out with h | h
            · exfalso
              obtain ⟨h1, h2⟩ := back_fwd h.1
              obtain ⟨_, h3, h4⟩ := pgk_all h1
              rw [← eN.out] at h4
              have := (HP.out (bkn way r b o ph).toNat (by omega)).2
              rw [Int.toNat_of_nonneg h3, h2] at this
              exact Hq.out _ (by omega) this
            · exact h.2
          clear HY HX HP Hq HC
          go_wp2
          go_ret
          exact ⟨rfl, HS.out.1.below⟩
    obtain ⟨p, rfl⟩ := Int.eq_ofNat_of_zero_le q0'
    have hp : p < N := by omega
    clear q0' q1
    obtain ⟨h1, h2⟩ := HP.out p hp
    obtain ⟨h3, h4⟩ := back_there h1
    obtain ⟨rfl, rfl⟩ : x = (F p : Int) ∧ f = 0 := by
      rcases HX.out with h | h
      · exact ⟨by rw [h.2.1, h2], h.2.2⟩
      · rw [h1] at h; cases h.1
    have C3 : Hid (∀ w, Calls Try.prog 9 #[.agg #[.int .i64 r, .int .i64 s, .int .i64 b, .int .i64 o, .int .i64 c], .int .i64 way, .int .i64 (F p : Int)] w fun e w' => e = .returned (.tuple #[.int .i64 (p : Int), .int .i64 0]) ∧ Below w.heap.size w w') := fun w => by
      rw [h2]
      have := back_yes r s b o c way (pgn way r b o (p : Int)) h3 w
      rw [h4] at this
      exact this
    clear h1 h2 h3 h4
    have g0 := HS.out.1.g.c0; have g1 := HS.out.1.g.c1; have g2 := HS.out.1.g.c2; have g3 := HS.out.1.g.c3; have g4 := HS.out.1.g.c4
    go_wp2_with fail
    refine (C3.out _).mono ?_
    rintro e W ⟨rfl, bW⟩
    replace HS : Hid (IP B X r s b o c w W ∧ Ow W C (.slice (some ⟨G, 0, none⟩) N cap) N F) := ⟨HS.out.1.next bW, HS.out.2.next bW⟩
    clear bW g0 g1 g2 g3 g4
    have hcp : W.cell? ⟨G, p, none⟩ = some (.int .i64 (F p : Int)) := HS.out.2.cell p hp
    replace HS : Hid (IP B X r s b o c w W ∧ Ow W C (.slice (some ⟨G, 0, none⟩) N cap) N F) := HS
    have HC : Hid (∀ k : Nat, k < N → W.cell? ⟨G, k, none⟩ = some (.int .i64 (F k : Int))) := fun k hkN => HS.out.2.cell k hkN
    go_wp2
    go_loop [130] (fun k => ∃ q : Nat, q ≤ N ∧ k = .int .i64 (q : Int) ∧ Hid (∀ j : Nat, j < q → ¬ ((F j : Int) = ph))) (fun k => (N - (intOf k).toNat))
    case atStart => exact ⟨0, by omega, rfl, fun j hj => by omega⟩
    case round =>
      obtain ⟨q, hq, rfl, Hq⟩ := hrel
      by_cases hlt : q < N
      · have hcell := HC.out q hlt
        by_cases he : (F q : Int) = ph
        · obtain ⟨h1, h2⟩ := HP.out q hlt
          obtain ⟨h3, h4⟩ := back_there h1
          rw [← h2, he] at h3 h4
          obtain ⟨rfl, rfl⟩ : y = (q : Int) ∧ g = 0 := by
            rcases HY.out with h | h
            · exact ⟨by rw [h.2.1, h4], h.2.2⟩
            · rw [h3] at h; cases h.1
          have he' : ((F q : Int) == ph) = true := beq_iff_eq.2 he
          clear h1 h2 h3 h4 HY HX HP Hq HC he
          go_wp2
          go_ret
          exact ⟨rfl, HS.out.1.below⟩
        · have he' : ((F q : Int) == ph) = false := beq_eq_false_iff_ne.2 he
          go_wp2
          go_round
          case rel => exact ⟨q + 1, by omega, by go_num, fun j hj => by
            by_cases h : j = q
            · rw [h]; exact he
            · exact Hq.out j (by omega)⟩
          case measure => simp [intOf]; omega
      · obtain rfl : q = N := by omega
        obtain ⟨rfl, rfl⟩ : y = 0 ∧ g = 12 := by
          rcases HY.out with h | h
          · exfalso
            obtain ⟨h1, h2⟩ := back_fwd h.1
            obtain ⟨_, h3, h4⟩ := pgk_all h1
            rw [← eN.out] at h4
            have := (HP.out (bkn way r b o ph).toNat (by omega)).2
            rw [Int.toNat_of_nonneg h3, h2] at this
            exact Hq.out _ (by omega) this
          · exact h.2
        clear HY HX HP Hq HC
        go_wp2
        go_ret
        exact ⟨rfl, HS.out.1.below⟩
theorem interPages_walk (a0 : Nat → Int) (a1 a2 a3 : Int) (w0 : ∀ i, i < 5 → (Lit.int .i64 (a0 i)).wf = true) (_w1 : (Lit.int .i64 a1).wf = true) (_w2 : (Lit.int .i64 a2).wf = true) (_w3 : (Lit.int .i64 a3).wf = true) (w : World) :
    Calls Try.prog 3 #[.agg (ints .i64 5 a0).toArray, .int .i64 a1, .int .i64 a2, .int .i64 a3] w fun e w' => e = .returned (.bool true) ∧ Below w.heap.size w w' := by
  have hi : ∀ i, i < 5 → I64 (a0 i) := fun i hi => by have := bounds_i64 (w0 i hi); exact ⟨this.1, by omega⟩
  exact interPages_core (a0 0) (a0 1) (a0 2) (a0 3) (a0 4) a1 a2 a3 (hi 0 (by omega)) (hi 2 (by omega)) (hi 3 (by omega)) (hi 4 (by omega)) w
end Go.Proofs.Ytalbloeaojpbgaa
