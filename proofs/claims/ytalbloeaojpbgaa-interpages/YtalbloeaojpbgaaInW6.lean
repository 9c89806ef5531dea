/-
  The walks of package inter: the page that is laid somewhere.
-/
import Derived.Test.YtalbloeaojpbgaaInL2
namespace Go.Proofs.Ytalbloeaojpbgaa
open Go.RowKit
open Ge (pw rt hd ix)
open In (mx plR plQ plU plB pgn bk bkn okp)
attribute [local go_sem] Oper.semAt_some

/-- a geometry and a place in B, B + 1 -/
structure GP8 (B : Nat) (r s b o c p q u v : Int) (w W : World) : Prop where
  g : Gm W B r s b o c
  p : Pl W (B + 1) p q u v
  below : Below B w W
theorem GP8.start (w : World) (r s b o c p q u v : Int) (t t' : TypeId) : GP8 w.heap.size r s b o c p q u v w ((w.alloc (.cells #[.int .i64 r, .int .i64 s, .int .i64 b, .int .i64 o, .int .i64 c] t)).alloc (.cells #[.int .i64 p, .int .i64 q, .int .i64 u, .int .i64 v] t')) := by
  have h1 := Pl.new (w.alloc (.cells #[.int .i64 r, .int .i64 s, .int .i64 b, .int .i64 o, .int .i64 c] t)) p q u v t'
  rw [World.size_alloc] at h1
  exact ⟨(Gm.new w r s b o c t).alloc _, h1, ((Below.refl _ w).alloc (Nat.le_refl _) _).alloc (by simp) _⟩
theorem GP8.next {B : Nat} {r s b o c p q u v : Int} {w W W' : World} (h : GP8 B r s b o c p q u v w W) (k : Below W.heap.size W W') : GP8 B r s b o c p q u v w W' := ⟨h.g.next k, h.p.next k, h.below.trans (k.mono (Nat.le_of_lt h.g.lt))⟩
theorem bk_prods {a b c d0 d1 d2 : Int} (h0 : 0 ≤ d0 ∧ d0 < a) (h1 : 0 ≤ d1 ∧ d1 < b) (h2 : 0 ≤ d2 ∧ d2 < c) (hA : a ≤ 1024) (hb : b ≤ 1024) (hc : c ≤ 1024) : (0 ≤ d2 * b ∧ d2 * b ≤ 1048576) ∧ (0 ≤ d2 * b + d1 ∧ d2 * b + d1 ≤ 1049600) ∧ (0 ≤ (d2 * b + d1) * a ∧ (d2 * b + d1) * a ≤ 1074790400) := by
  have p1 := low_prod d2 b 1024 1024 (by omega) (by omega) (by omega) (by omega)
  have p2 := low_prod (d2 * b + d1) a 1049600 1024 (by omega) (by omega) (by omega) (by omega)
  omega
set_option maxRecDepth 100000 in
set_option maxHeartbeats 4000000 in
theorem pageAt_any (r s b o c way p q u v : Int) (h : rw8 r s b o c way = true) (hp : 0 ≤ p ∧ p < r) (hq : 0 ≤ q ∧ q < b) (hu : 0 ≤ u ∧ u < o) (w : World) :
    Calls Try.prog 20 #[.agg #[.int .i64 r, .int .i64 s, .int .i64 b, .int .i64 o, .int .i64 c], .int .i64 way, .agg #[.int .i64 p, .int .i64 q, .int .i64 u, .int .i64 v]] w fun e w' => e = .returned (.int .i64 (bk way r b o p q u)) ∧ Below w.heap.size w w' := by
  obtain ⟨h1, hw, hw2⟩ := rw8_all h
  obtain ⟨a1, a2, a3, a4⟩ := rt_pows h1
  have b1 := Ge.pw_pos a1; have b2 := Ge.pw_pos a2; have b3 := Ge.pw_pos a3
  have hm := In.mx_lt (u := u) a2 hq
  obtain ⟨B, HB⟩ : ∃ B, Hid (w.heap.size = B) := ⟨_, rfl⟩
  have HM : Hid (∀ w, Calls Try.prog 30 #[.agg #[.int .i64 r, .int .i64 s, .int .i64 b, .int .i64 o, .int .i64 c], .agg #[.int .i64 p, .int .i64 q, .int .i64 u, .int .i64 v]] w fun e w' => e = .returned (.int .i64 (mx b q u)) ∧ Below w.heap.size w w') := fun w => mix_any r s b o c p q u v a2 (by omega) w
  rcases (show way = 0 ∨ way = 1 ∨ way = 2 ∨ way = 3 by omega) with rfl | rfl | rfl | rfl
  · have e : bk 0 r b o p q u = (p * b + q) * o + u := by simp only [bk, if_pos]
    obtain ⟨⟨x0, x1⟩, ⟨x2, x3⟩, ⟨x4, x5⟩⟩ := bk_prods hu hq hp (by omega) (by omega) (by omega)
    rw [e, HB.out]
    clear e HM hm h h1 a1 a2 a3 a4
    go_enter Try.func20, Try.ntmps20
    go_wp2
    go_ret
    have := (GP8.start w r s b o c p q u v 23 35).below
    rw [HB.out] at this
    exact ⟨rfl, this⟩
  · have e : bk 1 r b o p q u = (p * o + u) * b + q := by simp only [bk, if_pos, if_neg (show ¬ (1 : Int) = 0 by omega)]
    obtain ⟨⟨x0, x1⟩, ⟨x2, x3⟩, ⟨x4, x5⟩⟩ := bk_prods hq hu hp (by omega) (by omega) (by omega)
    rw [e, HB.out]
    clear e HM hm h h1 a1 a2 a3 a4
    go_enter Try.func20, Try.ntmps20
    go_wp2
    go_ret
    have := (GP8.start w r s b o c p q u v 23 35).below
    rw [HB.out] at this
    exact ⟨rfl, this⟩
  · have e : bk 2 r b o p q u = (u * b + q) * r + p := by simp only [bk, if_neg (show ¬ (2 : Int) = 0 by omega), if_neg (show ¬ (2 : Int) = 1 by omega), if_neg (show ¬ (2 : Int) = 3 by omega)]
    obtain ⟨⟨x0, x1⟩, ⟨x2, x3⟩, ⟨x4, x5⟩⟩ := bk_prods hp hq hu (by omega) (by omega) (by omega)
    rw [e, HB.out]
    clear e HM hm h h1 a1 a2 a3 a4
    go_enter Try.func20, Try.ntmps20
    go_wp2
    go_ret
    have := (GP8.start w r s b o c p q u v 23 35).below
    rw [HB.out] at this
    exact ⟨rfl, this⟩
  · have e : bk 3 r b o p q u = (u * b + mx b q u) * r + p := by simp only [bk, if_pos, if_neg (show ¬ (3 : Int) = 0 by omega), if_neg (show ¬ (3 : Int) = 1 by omega)]
    obtain ⟨⟨x0, x1⟩, ⟨x2, x3⟩, ⟨x4, x5⟩⟩ := bk_prods hp hm hu (by omega) (by omega) (by omega)
    rw [e, HB.out]
    obtain ⟨m, hm2⟩ : ∃ m, mx b q u = m := ⟨_, rfl⟩
    rw [hm2] at HM hm x2 x3 x4 x5 ⊢
    clear e h h1 a1 a2 a3 a4 hm2
    go_enter Try.func20, Try.ntmps20
    go_wp2_with fail
    have HS : Hid (GP8 B r s b o c p q u v w ((w.alloc (.cells #[.int .i64 r, .int .i64 s, .int .i64 b, .int .i64 o, .int .i64 c] 23)).alloc (.cells #[.int .i64 p, .int .i64 q, .int .i64 u, .int .i64 v] 35))) := by rw [← HB.out]; exact GP8.start w r s b o c p q u v _ _
    rw [HB.out]
    refine (HM.out _).mono ?_
    rintro e W1 ⟨rfl, bW⟩
    replace HS : Hid (GP8 B r s b o c p q u v w W1) := HS.out.next bW
    clear bW
    have g0 := HS.out.g.c0; have g2 := HS.out.g.c2
    have p0 := HS.out.p.c0; have p1 := HS.out.p.c1; have p2 := HS.out.p.c2
    have f1 := Bk.free HS.out.p 1
    go_wp2
    go_ret
    exact ⟨rfl, HS.out.below.setCell (p := ⟨B + 1, 1, none⟩) (by show B ≤ B + 1; omega) _⟩

/-- a page of the system is laid there -/
def bkk (r s b o c way x : Int) : Bool := rw8 r s b o c way && decide (0 ≤ x ∧ x / 16384 < r ∧ x / 1024 % 16 < b ∧ x % 1024 < o)
theorem bkk_all {r s b o c way x : Int} (h : bkk r s b o c way x = true) : rw8 r s b o c way = true ∧ okp r b o x := by
  unfold bkk at h
  simp only [Bool.and_eq_true, decide_eq_true_eq] at h
  exact h
theorem hx_at {r s b o c x : Int} (h1 : rt r s b o c = true) : hx r s b o c (x * 64) = decide ((0 ≤ x ∧ x / 16384 < r + s) ∧ x / 1024 % 16 < b ∧ x % 1024 < o) := by
  have := Ge.rt_all h1
  have e1 : x * 64 / 1048576 = x / 16384 := by omega
  have e2 : x * 64 / 65536 % 16 = x / 1024 % 16 := by omega
  have e3 : x * 64 / 64 % 1024 = x % 1024 := by omega
  have e4 : x * 64 % 64 = 0 := by omega
  unfold hx hd
  rw [e1, e2, e3, e4, h1, Bool.eq_iff_iff]
  simp only [Bool.and_eq_true, decide_eq_true_eq, true_and]
  omega
theorem at_there {r s b o c x : Int} (h1 : rt r s b o c = true) (h : (0 ≤ x ∧ x / 16384 < r + s) ∧ x / 1024 % 16 < b ∧ x % 1024 < o) (w : World) : Calls Try.prog 14 #[.agg #[.int .i64 r, .int .i64 s, .int .i64 b, .int .i64 o, .int .i64 c], .int .i64 (x * 64)] w fun e w' => e = .returned (.tuple #[.agg #[.int .i64 (x / 16384), .int .i64 (x / 1024 % 16), .int .i64 (x % 1024), .int .i64 0], .int .i64 0]) ∧ Below w.heap.size w w' := by
  have e1 : x * 64 / 1048576 = x / 16384 := by omega
  have e2 : x * 64 / 65536 % 16 = x / 1024 % 16 := by omega
  have e3 : x * 64 / 64 % 1024 = x % 1024 := by omega
  have e4 : x * 64 % 64 = 0 := by omega
  have := at_yes r s b o c (x * 64) (by rw [hx_at h1, decide_eq_true h]) w
  rw [e1, e2, e3, e4] at this
  exact this

set_option maxRecDepth 100000 in
set_option maxHeartbeats 4000000 in
theorem back_yes (r s b o c way x : Int) (h : bkk r s b o c way x = true) (w : World) :
    Calls Try.prog 9 #[.agg #[.int .i64 r, .int .i64 s, .int .i64 b, .int .i64 o, .int .i64 c], .int .i64 way, .int .i64 x] w fun e w' => e = .returned (.tuple #[.int .i64 (bkn way r b o x), .int .i64 0]) ∧ Below w.heap.size w w' := by
  obtain ⟨h0, k0, k1, k2, k3⟩ := bkk_all h
  obtain ⟨h1, hw, hw2⟩ := rw8_all h0
  have ha := Ge.rt_all h1
  have x1 : x < 131072 := by omega
  have HR : Hid (∀ w, Calls Try.prog 11 #[.agg #[.int .i64 r, .int .i64 s, .int .i64 b, .int .i64 o, .int .i64 c], .int .i64 way] w fun e w' => e = .returned (.bool true) ∧ Below w.heap.size w w') := fun w => by rw [← h0]; exact right8_any r s b o c way w
  have HI : Hid (∀ w, Calls Try.prog 16 #[.int .i64 x, .int .i64 131072] w fun e w' => e = .returned (.bool true) ∧ w' = w) := fun w => by have := isBelow8_any x 131072 w; rw [decide_eq_true ⟨k0, x1⟩] at this; exact this
  obtain ⟨P, hP⟩ : ∃ P, x / 16384 = P := ⟨_, rfl⟩
  obtain ⟨Q, hQ⟩ : ∃ Q, x / 1024 % 16 = Q := ⟨_, rfl⟩
  obtain ⟨T, hT⟩ : ∃ T, x % 1024 = T := ⟨_, rfl⟩
  have HA : Hid (∀ w, Calls Try.prog 14 #[.agg #[.int .i64 r, .int .i64 s, .int .i64 b, .int .i64 o, .int .i64 c], .int .i64 (x * 64)] w fun e w' => e = .returned (.tuple #[.agg #[.int .i64 P, .int .i64 Q, .int .i64 T, .int .i64 0], .int .i64 0]) ∧ Below w.heap.size w w') := fun w => by rw [← hP, ← hQ, ← hT]; exact at_there h1 ⟨⟨k0, by omega⟩, k2, k3⟩ w
  have P0 : 0 ≤ P := by omega
  have P1 : P < r := by omega
  have Q0 : 0 ≤ Q ∧ Q < b := by omega
  have T0 : 0 ≤ T ∧ T < o := by omega
  have HG : Hid (∀ w, Calls Try.prog 20 #[.agg #[.int .i64 r, .int .i64 s, .int .i64 b, .int .i64 o, .int .i64 c], .int .i64 way, .agg #[.int .i64 P, .int .i64 Q, .int .i64 T, .int .i64 0]] w fun e w' => e = .returned (.int .i64 (bkn way r b o x)) ∧ Below w.heap.size w w') := fun w => by unfold bkn; rw [hP, hQ, hT]; exact pageAt_any r s b o c way P Q T 0 h0 ⟨P0, P1⟩ Q0 T0 w
  obtain ⟨y, hy⟩ : ∃ y, bkn way r b o x = y := ⟨_, rfl⟩
  obtain ⟨B, HB⟩ : ∃ B, Hid (w.heap.size = B) := ⟨_, rfl⟩
  rw [hy] at HG ⊢
  rw [HB.out]
  clear hy hP hQ hT h h0 h1 ha k1 k2 k3 hw hw2 Q0 T0
  go_enter Try.func9, Try.ntmps9
  go_wp2_with fail
  have HS : Hid (G8 B r s b o c w (w.alloc (.cells #[.int .i64 r, .int .i64 s, .int .i64 b, .int .i64 o, .int .i64 c] 23))) := by rw [← HB.out]; exact G8.start w r s b o c _
  rw [HB.out]
  refine (HR.out _).mono ?_
  rintro e W1 ⟨rfl, bW⟩
  replace HS : Hid (G8 B r s b o c w W1) := HS.out.next bW
  clear bW
  have g0 := HS.out.g.c0; have g1 := HS.out.g.c1; have g2 := HS.out.g.c2; have g3 := HS.out.g.c3; have g4 := HS.out.g.c4
  go_wp2_with fail
  refine (HI.out _).mono ?_
  rintro e W2 ⟨rfl, hW⟩
  rw [hW]
  clear hW
  go_wp2_with fail
  refine (HA.out _).mono ?_
  rintro e W3 ⟨rfl, bW⟩
  replace HS : Hid (G8 B r s b o c w W3) := HS.out.next bW
  clear bW g0 g1 g2 g3 g4
  have l4 := HS.out.g.lt
  go_upto_region 4 with (fail)
  obtain ⟨D, hD⟩ : ∃ D, W3.heap.size = D := ⟨_, rfl⟩
  obtain ⟨V, hV⟩ : ∃ V, W3.alloc (.cells #[.int .i64 P, .int .i64 Q, .int .i64 T, .int .i64 0] 35) = V := ⟨_, rfl⟩
  have HD : Hid (Pl V D P Q T 0) := by rw [← hV, ← hD]; exact Pl.new W3 P Q T 0 _
  replace HS : Hid (G8 B r s b o c w V) := by rw [← hV]; exact HS.out.next ((Below.refl _ W3).alloc (Nat.le_refl _) _)
  rw [hV, hD]
  clear hV hD l4
  have g0 := HS.out.g.c0; have g1 := HS.out.g.c1; have g2 := HS.out.g.c2; have g3 := HS.out.g.c3; have g4 := HS.out.g.c4
  have d0 := HD.out.c0; have d1 := HD.out.c1; have d2 := HD.out.c2; have d3 := HD.out.c3
  go_wp2_with fail
  refine (HG.out _).mono ?_
  rintro e W4 ⟨rfl, bW⟩
  replace HS : Hid (G8 B r s b o c w W4) := HS.out.next bW
  clear bW g0 g1 g2 g3 g4 d0 d1 d2 d3 HD
  go_wp2
  exact bodyPost_ret (results_tmp2 rfl _ _ _) rfl ⟨rfl, HS.out.below⟩
set_option maxRecDepth 100000 in
set_option maxHeartbeats 4000000 in
theorem back_no (r s b o c way x : Int) (h : bkk r s b o c way x = false) (w : World) :
    Calls Try.prog 9 #[.agg #[.int .i64 r, .int .i64 s, .int .i64 b, .int .i64 o, .int .i64 c], .int .i64 way, .int .i64 x] w fun e w' => e = .returned (.tuple #[.int .i64 0, .int .i64 12]) ∧ Below w.heap.size w w' := by
  obtain ⟨z, Z⟩ : ∃ z, Hid (rw8 r s b o c way = z) := ⟨_, rfl⟩
  have HR : Hid (∀ w, Calls Try.prog 11 #[.agg #[.int .i64 r, .int .i64 s, .int .i64 b, .int .i64 o, .int .i64 c], .int .i64 way] w fun e w' => e = .returned (.bool z) ∧ Below w.heap.size w w') := fun w => by rw [← Z.out]; exact right8_any r s b o c way w
  obtain ⟨y, Y⟩ : ∃ y, Hid (decide (0 ≤ x ∧ x < 131072) = y) := ⟨_, rfl⟩
  have HI : Hid (∀ w, Calls Try.prog 16 #[.int .i64 x, .int .i64 131072] w fun e w' => e = .returned (.bool y) ∧ w' = w) := fun w => by rw [← Y.out]; exact isBelow8_any x 131072 w
  obtain ⟨B, HB⟩ : ∃ B, Hid (w.heap.size = B) := ⟨_, rfl⟩
  have Hh : Hid (bkk r s b o c way x = false) := h
  rw [HB.out]
  clear h
  go_enter Try.func9, Try.ntmps9
  go_wp2_with fail
  have HS : Hid (G8 B r s b o c w (w.alloc (.cells #[.int .i64 r, .int .i64 s, .int .i64 b, .int .i64 o, .int .i64 c] 23))) := by rw [← HB.out]; exact G8.start w r s b o c _
  rw [HB.out]
  refine (HR.out _).mono ?_
  rintro e W1 ⟨rfl, bW⟩
  replace HS : Hid (G8 B r s b o c w W1) := HS.out.next bW
  clear bW
  cases z with
  | false =>
    go_wp2
    exact bodyPost_ret (results_tmp2 rfl _ _ _) rfl ⟨rfl, HS.out.below⟩
  | true =>
    have g0 := HS.out.g.c0; have g1 := HS.out.g.c1; have g2 := HS.out.g.c2; have g3 := HS.out.g.c3; have g4 := HS.out.g.c4
    go_wp2_with fail
    refine (HI.out _).mono ?_
    rintro e W2 ⟨rfl, hW⟩
    rw [hW]
    clear hW
    cases y with
    | false =>
      go_wp2
      exact bodyPost_ret (results_tmp2 rfl _ _ _) rfl ⟨rfl, HS.out.below⟩
    | true =>
      have hxx := of_decide_eq_true Y.out
      obtain ⟨x0, x1⟩ := hxx
      obtain ⟨h1, _, _⟩ := rw8_all Z.out
      have hn : ¬ (0 ≤ x ∧ x / 16384 < r ∧ x / 1024 % 16 < b ∧ x % 1024 < o) := fun hc => by
        have := Hh.out
        unfold bkk at this
        rw [Z.out, decide_eq_true hc] at this
        cases this
      obtain ⟨P, Q, T, f, C3, hP⟩ : ∃ P Q T f : Int, Hid (∀ w, Calls Try.prog 14 #[.agg #[.int .i64 r, .int .i64 s, .int .i64 b, .int .i64 o, .int .i64 c], .int .i64 (x * 64)] w fun e w' => e = .returned (.tuple #[.agg #[.int .i64 P, .int .i64 Q, .int .i64 T, .int .i64 0], .int .i64 f]) ∧ Below w.heap.size w w') ∧ (f = 12 ∨ (f = 0 ∧ r ≤ P)) := by
        by_cases hy : (0 ≤ x ∧ x / 16384 < r + s) ∧ x / 1024 % 16 < b ∧ x % 1024 < o
        · exact ⟨_, _, _, _, at_there h1 hy, .inr ⟨rfl, by omega⟩⟩
        · exact ⟨0, 0, 0, 12, at_no r s b o c (x * 64) (by rw [hx_at h1, decide_eq_false hy]), .inl rfl⟩
      clear hn h1
      go_wp2_with fail
      refine (C3.out _).mono ?_
      rintro e W3 ⟨rfl, bW⟩
      replace HS : Hid (G8 B r s b o c w W3) := HS.out.next bW
      clear bW g0 g1 g2 g3 g4
      have l4 := HS.out.g.lt
      go_upto_region 4 with (fail)
      obtain ⟨D, hD⟩ : ∃ D, W3.heap.size = D := ⟨_, rfl⟩
      obtain ⟨V, hV⟩ : ∃ V, W3.alloc (.cells #[.int .i64 P, .int .i64 Q, .int .i64 T, .int .i64 0] 35) = V := ⟨_, rfl⟩
      have HD : Hid (Pl V D P Q T 0) := by rw [← hV, ← hD]; exact Pl.new W3 P Q T 0 _
      replace HS : Hid (G8 B r s b o c w V) := by rw [← hV]; exact HS.out.next ((Below.refl _ W3).alloc (Nat.le_refl _) _)
      rw [hV, hD]
      clear hV hD l4
      rcases hP with rfl | ⟨rfl, hP⟩
      · go_wp2
        exact bodyPost_ret (results_tmp2 rfl _ _ _) rfl ⟨rfl, HS.out.below⟩
      · have g0 := HS.out.g.c0
        have d0 := HD.out.c0
        go_wp2
        exact bodyPost_ret (results_tmp2 rfl _ _ _) rfl ⟨rfl, HS.out.below⟩
theorem back_told_any (r s b o c way p : Int) : ∃ x f : Int, Hid ((bkk r s b o c way p = true ∧ x = bkn way r b o p ∧ f = 0) ∨ (bkk r s b o c way p = false ∧ x = 0 ∧ f = 12)) ∧
    Hid (∀ w : World, Calls Try.prog 9 #[.agg #[.int .i64 r, .int .i64 s, .int .i64 b, .int .i64 o, .int .i64 c], .int .i64 way, .int .i64 p] w fun e w' => e = .returned (.tuple #[.int .i64 x, .int .i64 f]) ∧ Below w.heap.size w w') := by
  cases h : bkk r s b o c way p with
  | true => exact ⟨_, _, .inl ⟨rfl, rfl, rfl⟩, fun w => back_yes r s b o c way p h w⟩
  | false => exact ⟨_, _, .inr ⟨rfl, rfl, rfl⟩, fun w => back_no r s b o c way p h w⟩
end Go.Proofs.Ytalbloeaojpbgaa
