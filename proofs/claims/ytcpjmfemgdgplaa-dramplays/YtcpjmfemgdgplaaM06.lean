/-
  Texts of one family, one behind another: FaW4, FaW5, FaW6, AryCp, RwW8, RwW9, RwW10.
-/
import Derived.Test.YtcpjmfemgdgplaaM05
import Derived.Test.YtcpjmfemgdgplaaM01
import Derived.Test.YtcpjmfemgdgplaaM04
import Derived.Laws.MakeOwn
import Derived.Test.YtcpjmfemgdgplaaM02

/-
  The walks of package fault: Right.
-/
namespace Go.Proofs.Ytcpjmfemgdgplaa
open Go.RowKit Go.Shelf
open Ge (pw rt hd ix)
attribute [local go_sem] Oper.semAt_some

theorem infoGm : (Try.prog.info? 23).map (·.size) = some 5 := by kernel_rfl
/-- what Right was given -/
structure Rg (B C : Nat) (k p q u v c i x : Int) (r s b o d : Int) (w W : World) : Prop where
  f : Ft W B k p q u v c i x
  g : Gm W C r s b o d
  n : Below B w W
  l : B ≤ W.heap.size
theorem Rg.next {B C : Nat} {k p q u v c i x : Int} {r s b o d : Int} {w W W' : World} (h : Rg B C k p q u v c i x r s b o d w W) (e : Below W.heap.size W W') : Rg B C k p q u v c i x r s b o d w W' :=
  ⟨h.f.next e, h.g.next e, h.n.trans (e.mono h.l), Nat.le_trans h.l e.size⟩
set_option maxRecDepth 100000 in
set_option maxHeartbeats 4000000 in
theorem fRight_core (k p q u v c i x : Int) (r s b o d m n j : Int) (hm : Md m n j) (k2 p2 q2 u2 v2 c2 i2 x2 : Int)
    (HO : Hid (∀ w : World, Calls Try.prog 59 #[.agg #[.int .i64 k, .int .i64 p, .int .i64 q, .int .i64 u, .int .i64 v, .int .i64 c, .int .i64 i, .int .i64 x]] w fun e w' => e = .returned (.agg #[.int .i64 k2, .int .i64 p2, .int .i64 q2, .int .i64 u2, .int .i64 v2, .int .i64 c2, .int .i64 i2, .int .i64 x2]) ∧ Below w.heap.size w w')) (w : World) :
    Calls Try.prog 31 #[.agg #[.int .i64 k, .int .i64 p, .int .i64 q, .int .i64 u, .int .i64 v, .int .i64 c, .int .i64 i, .int .i64 x], .agg #[.int .i64 r, .int .i64 s, .int .i64 b, .int .i64 o, .int .i64 d], .int .i64 m] w fun e w' => e = .returned (.bool (decide (1 ≤ k ∧ k ≤ 7) && (decide (k = k2 ∧ p = p2 ∧ q = q2 ∧ u = u2 ∧ v = v2 ∧ c = c2 ∧ i = i2 ∧ x = x2) && (hd r s b o d p q u v && (decide (0 ≤ c ∧ c < n) && (decide (0 ≤ i ∧ i < 576) && decide (0 ≤ x ∧ x < if k = 2 then 2 else 256))))))) ∧ Below w.heap.size w w' := by
  obtain ⟨z0, Z0⟩ : ∃ z, decide (1 ≤ k ∧ k ≤ 7) = z := ⟨_, rfl⟩
  obtain ⟨z1, Z1⟩ : ∃ z, decide (k = k2 ∧ p = p2 ∧ q = q2 ∧ u = u2 ∧ v = v2 ∧ c = c2 ∧ i = i2 ∧ x = x2) = z := ⟨_, rfl⟩
  obtain ⟨z2, Z2⟩ : ∃ z, hd r s b o d p q u v = z := ⟨_, rfl⟩
  obtain ⟨z3, Z3⟩ : ∃ z, decide (0 ≤ c ∧ c < n) = z := ⟨_, rfl⟩
  obtain ⟨z4, Z4⟩ : ∃ z, decide (0 ≤ i ∧ i < 576) = z := ⟨_, rfl⟩
  obtain ⟨y, Y⟩ : ∃ y : Int, (if k = 2 then 2 else 256) = y := ⟨_, rfl⟩
  obtain ⟨z5, Z5⟩ : ∃ z, decide (0 ≤ x ∧ x < y) = z := ⟨_, rfl⟩
  have C0 : Hid (∀ w : World, Calls Try.prog 58 #[.int .i64 k] w fun e w' => e = .returned (.bool z0) ∧ w' = w) := fun w => by rw [← Z0]; exact isKind_any k w
  have C1 : Hid (∀ w : World, (binOp .eql 38 (.agg #[.int .i64 k, .int .i64 p, .int .i64 q, .int .i64 u, .int .i64 v, .int .i64 c, .int .i64 i, .int .i64 x]) (.agg #[.int .i64 k2, .int .i64 p2, .int .i64 q2, .int .i64 u2, .int .i64 v2, .int .i64 c2, .int .i64 i2, .int .i64 x2])).run Try.prog w = .ok (.bool z1) w) := fun w => by rw [← Z1]; exact eqF_eql k p q u v c i x k2 p2 q2 u2 v2 c2 i2 x2 w
  have C2 : Hid (∀ w : World, Calls Try.prog 48 #[.agg #[.int .i64 r, .int .i64 s, .int .i64 b, .int .i64 o, .int .i64 d], .agg #[.int .i64 p, .int .i64 q, .int .i64 u, .int .i64 v]] w fun e w' => e = .returned (.bool z2) ∧ Below w.heap.size w w') := fun w => by rw [← Z2]; exact holds_any r s b o d p q u v w
  have C3 : Hid (∀ w : World, Calls Try.prog 56 #[.int .i64 c, .int .i64 n] w fun e w' => e = .returned (.bool z3) ∧ w' = w) := fun w => by rw [← Z3]; exact fbelow_any c n w
  have C4 : Hid (∀ w : World, Calls Try.prog 56 #[.int .i64 i, .int .i64 576] w fun e w' => e = .returned (.bool z4) ∧ w' = w) := fun w => by rw [← Z4]; exact fbelow_any i 576 w
  have C5 : Hid (∀ w : World, Calls Try.prog 56 #[.int .i64 x, .int .i64 y] w fun e w' => e = .returned (.bool z5) ∧ w' = w) := fun w => by rw [← Z5]; exact fbelow_any x y w
  have C6 : Hid (∀ w : World, Calls Try.prog 57 #[.int .i64 m] w fun e w' => e = .returned (.int .i64 n) ∧ w' = w) := fun w => countChips_any hm w
  have C7 : Hid (∀ w : World, Calls Try.prog 60 #[.agg #[.int .i64 k, .int .i64 p, .int .i64 q, .int .i64 u, .int .i64 v, .int .i64 c, .int .i64 i, .int .i64 x]] w fun e w' => e = .returned (.int .i64 y) ∧ Below w.heap.size w w') := fun w => by rw [← Y]; exact values_any k p q u v c i x w
  rw [Z0, Z1, Z2, Z3, Z4, Y, Z5]
  clear Z0 Z1 Z2 Z3 Z4 Z5 Y hm
  go_enter Try.func31, Try.ntmps31
  go_upto_region 1 with (fail)
  obtain ⟨B, hB⟩ : ∃ B, w.heap.size = B := ⟨_, rfl⟩
  obtain ⟨C, hC⟩ : ∃ C, B + 1 = C := ⟨_, rfl⟩
  obtain ⟨V, hV⟩ : ∃ V, (w.alloc (.cells #[.int .i64 k, .int .i64 p, .int .i64 q, .int .i64 u, .int .i64 v, .int .i64 c, .int .i64 i, .int .i64 x] 38)).alloc (.cells #[.int .i64 r, .int .i64 s, .int .i64 b, .int .i64 o, .int .i64 d] 23) = V := ⟨_, rfl⟩
  have HI : Hid (Rg B C k p q u v c i x r s b o d w V) := by
    rw [← hV, ← hC, ← hB]
    have h1 := Gm.new (w.alloc (.cells #[.int .i64 k, .int .i64 p, .int .i64 q, .int .i64 u, .int .i64 v, .int .i64 c, .int .i64 i, .int .i64 x] 38)) r s b o d 23
    simp only [World.size_alloc] at h1
    exact ⟨(Ft.new w k p q u v c i x _).alloc _, h1, ((Below.refl _ w).alloc (Nat.le_refl _) _).alloc (by simp) _, by simp only [World.size_alloc]; omega⟩
  rw [hV, hB, hC]
  clear hV hC
  refine region_calm (by kernel_rfl) (by kernel_rfl) (fun W => Below V.heap.size V W) (below_drew1 V) ?_
  intro U hU f hf hof
  have HN : Hid (∀ u W, Below (f u).heap.size (f u) W → ∃ x, W = f x) := fun u W h => hof W ((hf u).trans (h.mono (hf u).size))
  have HE : Hid (∀ y, Rg B C k p q u v c i x r s b o d w (f y)) := fun y => HI.out.next (hf y)
  have f0 : ∀ y, (f y).cell? ⟨B, 0, none⟩ = some (.int .i64 k) := fun y => (HE.out y).f.c0
  have f5 : ∀ y, (f y).cell? ⟨B, 5, none⟩ = some (.int .i64 c) := fun y => (HE.out y).f.c5
  have f6 : ∀ y, (f y).cell? ⟨B, 6, none⟩ = some (.int .i64 i) := fun y => (HE.out y).f.c6
  have f7 : ∀ y, (f y).cell? ⟨B, 7, none⟩ = some (.int .i64 x) := fun y => (HE.out y).f.c7
  have gd := eqF_gd
  clear hf hof HI
  go_big_quiet_step (fail)
  go_big_quiet_step (fail)
  go_big_quiet_step ((go_at_call 58; exact calm_same (C0.out _)))
  go_big_quiet_step (fail)
  cases z0 with
  | false =>
    go_big_quiet_step (fail)
    go_big_quiet_step (fail)
    go_big_quiet_step (fail)
    go_big_quiet_step (fail)
    go_big_quiet_step (fail)
    go_big_quiet_step (fail)
    go_big_quiet_step (fail)
    go_big_quiet_step (fail)
    go_big_quiet_step (fail)
    go_big_quiet_step (fail)
    go_big_quiet_step (fail)
    go_big_quiet_step (fail)
    go_big_quiet_step (fail)
    go_big_quiet_step (fail)
    go_big_quiet_step (fail)
    go_big_quiet_step (fail)
    go_big_quiet_step (fail)
    go_big_quiet_step (fail)
    go_big_quiet_step (fail)
    go_big_quiet_step (fail)
    go_big_quiet_step (fail)
    go_big_quiet_step (fail)
    go_big_quiet_step (fail)
    go_big_quiet_step (fail)
    go_big_quiet_step (fail)
    go_big_quiet_step (fail)
    go_big_quiet_step (fail)
    go_big_quiet_step (fail)
    go_big_quiet_step (fail)
    go_big_quiet_step (fail)
    go_big_quiet_step (fail)
    refine wpQuiet_nil ?_
    rintro _ ⟨y, rfl⟩
    go_wp2
    go_ret
    exact ⟨rfl, by first | exact (HE.out y).n | (rw [hB]; exact (HE.out y).n)⟩
  | true =>
    refine quiet_load rfl 38 _ rfl B 0 rfl [.int .i64 k, .int .i64 p, .int .i64 q, .int .i64 u, .int .i64 v, .int .i64 c, .int .i64 i, .int .i64 x] _ (by rintro _ ⟨y, rfl⟩; exact (HE.out y).f.range) Try.underlying38 rfl infoF ?_
    simp only [Act.put, List.setIfInBounds_toArray, List.set_cons_zero, List.set_cons_succ]
    refine quiet_load rfl 38 _ rfl B 0 rfl [.int .i64 k, .int .i64 p, .int .i64 q, .int .i64 u, .int .i64 v, .int .i64 c, .int .i64 i, .int .i64 x] _ (by rintro _ ⟨y, rfl⟩; exact (HE.out y).f.range) Try.underlying38 rfl infoF ?_
    simp only [Act.put, List.setIfInBounds_toArray, List.set_cons_zero, List.set_cons_succ]
    go_big_quiet_step ((go_at_call 59; exact calm_next HN.out (HO.out _)))
    refine quiet_one rfl _ (exec_eqlA 38 _ _ _ rfl _ _ _ rfl rfl gd (fun w => C1.out w)) ?_
    simp only [Act.put, List.setIfInBounds_toArray, List.set_cons_zero, List.set_cons_succ]
    go_big_quiet_step (fail)
    go_big_quiet_step (fail)
    cases z1 with
    | false =>
      go_big_quiet_step (fail)
      go_big_quiet_step (fail)
      go_big_quiet_step (fail)
      go_big_quiet_step (fail)
      go_big_quiet_step (fail)
      go_big_quiet_step (fail)
      go_big_quiet_step (fail)
      go_big_quiet_step (fail)
      go_big_quiet_step (fail)
      go_big_quiet_step (fail)
      go_big_quiet_step (fail)
      go_big_quiet_step (fail)
      go_big_quiet_step (fail)
      go_big_quiet_step (fail)
      go_big_quiet_step (fail)
      go_big_quiet_step (fail)
      go_big_quiet_step (fail)
      go_big_quiet_step (fail)
      go_big_quiet_step (fail)
      go_big_quiet_step (fail)
      go_big_quiet_step (fail)
      go_big_quiet_step (fail)
      go_big_quiet_step (fail)
      go_big_quiet_step (fail)
      go_big_quiet_step (fail)
      refine wpQuiet_nil ?_
      rintro _ ⟨y, rfl⟩
      go_wp2
      go_ret
      exact ⟨rfl, by first | exact (HE.out y).n | (rw [hB]; exact (HE.out y).n)⟩
    | true =>
      refine quiet_load rfl 23 _ rfl C 0 rfl [.int .i64 r, .int .i64 s, .int .i64 b, .int .i64 o, .int .i64 d] _ (by rintro _ ⟨y, rfl⟩; exact Bk.range (HE.out y).g) Try.underlying23 rfl infoGm ?_
      simp only [Act.put, List.setIfInBounds_toArray, List.set_cons_zero, List.set_cons_succ]
      go_big_quiet_step (fail)
      refine quiet_load rfl 36 _ rfl B 1 rfl [.int .i64 p, .int .i64 q, .int .i64 u, .int .i64 v] _ (by rintro _ ⟨y, rfl⟩; exact (HE.out y).f.place) Try.underlying36 rfl infoP ?_
      simp only [Act.put, List.setIfInBounds_toArray, List.set_cons_zero, List.set_cons_succ]
      go_big_quiet_step ((go_at_call 48; exact calm_next HN.out (C2.out _)))
      go_big_quiet_step (fail)
      go_big_quiet_step (fail)
      cases z2 with
      | false =>
        go_big_quiet_step (fail)
        go_big_quiet_step (fail)
        go_big_quiet_step (fail)
        go_big_quiet_step (fail)
        go_big_quiet_step (fail)
        go_big_quiet_step (fail)
        go_big_quiet_step (fail)
        go_big_quiet_step (fail)
        go_big_quiet_step (fail)
        go_big_quiet_step (fail)
        go_big_quiet_step (fail)
        go_big_quiet_step (fail)
        go_big_quiet_step (fail)
        go_big_quiet_step (fail)
        go_big_quiet_step (fail)
        go_big_quiet_step (fail)
        go_big_quiet_step (fail)
        go_big_quiet_step (fail)
        go_big_quiet_step (fail)
        refine wpQuiet_nil ?_
        rintro _ ⟨y, rfl⟩
        go_wp2
        go_ret
        exact ⟨rfl, by first | exact (HE.out y).n | (rw [hB]; exact (HE.out y).n)⟩
      | true =>
        go_big_quiet_step (fail)
        go_big_quiet_step (fail)
        go_big_quiet_step (fail)
        go_big_quiet_step ((go_at_call 57; exact calm_same (C6.out _)))
        go_big_quiet_step ((go_at_call 56; exact calm_same (C3.out _)))
        go_big_quiet_step (fail)
        go_big_quiet_step (fail)
        cases z3 with
        | false =>
          go_big_quiet_step (fail)
          go_big_quiet_step (fail)
          go_big_quiet_step (fail)
          go_big_quiet_step (fail)
          go_big_quiet_step (fail)
          go_big_quiet_step (fail)
          go_big_quiet_step (fail)
          go_big_quiet_step (fail)
          go_big_quiet_step (fail)
          go_big_quiet_step (fail)
          go_big_quiet_step (fail)
          go_big_quiet_step (fail)
          refine wpQuiet_nil ?_
          rintro _ ⟨y, rfl⟩
          go_wp2
          go_ret
          exact ⟨rfl, by first | exact (HE.out y).n | (rw [hB]; exact (HE.out y).n)⟩
        | true =>
          go_big_quiet_step (fail)
          go_big_quiet_step (fail)
          go_big_quiet_step ((go_at_call 56; exact calm_same (C4.out _)))
          go_big_quiet_step (fail)
          go_big_quiet_step (fail)
          cases z4 with
          | false =>
            go_big_quiet_step (fail)
            go_big_quiet_step (fail)
            go_big_quiet_step (fail)
            go_big_quiet_step (fail)
            go_big_quiet_step (fail)
            go_big_quiet_step (fail)
            go_big_quiet_step (fail)
            refine wpQuiet_nil ?_
            rintro _ ⟨y, rfl⟩
            go_wp2
            go_ret
            exact ⟨rfl, by first | exact (HE.out y).n | (rw [hB]; exact (HE.out y).n)⟩
          | true =>
            go_big_quiet_step (fail)
            go_big_quiet_step (fail)
            refine quiet_load rfl 38 _ rfl B 0 rfl [.int .i64 k, .int .i64 p, .int .i64 q, .int .i64 u, .int .i64 v, .int .i64 c, .int .i64 i, .int .i64 x] _ (by rintro _ ⟨y, rfl⟩; exact (HE.out y).f.range) Try.underlying38 rfl infoF ?_
            simp only [Act.put, List.setIfInBounds_toArray, List.set_cons_zero, List.set_cons_succ]
            go_big_quiet_step ((go_at_call 60; exact calm_next HN.out (C7.out _)))
            go_big_quiet_step ((go_at_call 56; exact calm_same (C5.out _)))
            go_big_quiet_step (fail)
            go_big_quiet_step (fail)
            refine wpQuiet_nil ?_
            rintro _ ⟨y, rfl⟩
            go_wp2
            go_ret
            exact ⟨rfl, by first | exact (HE.out y).n | (rw [hB]; exact (HE.out y).n)⟩
end Go.Proofs.Ytcpjmfemgdgplaa

/-
  The walks of package fault: Right, of any fault; where a fault lies.
-/
namespace Go.Proofs.Ytcpjmfemgdgplaa
open Go.RowKit Go.Shelf
open Ge (pw rt hd ix)
attribute [local go_sem] Oper.semAt_some

/-- what the kinds ask of what they have -/
abbrev kOk (k p q u v c i x : Int) : Prop := (k ≠ 1 ∨ (c = 0 ∧ x = 0)) ∧ (k ≠ 2 ∨ (c = 0 ∧ x ≤ 1)) ∧ (k ≠ 3 ∨ (i = 0 ∧ v = 0)) ∧ (k ≠ 4 ∨ (i = 0 ∧ u = 0)) ∧ (k ≠ 5 ∨ (i = 0 ∧ q = 0 ∧ u = 0 ∧ v = 0)) ∧ (k ≠ 6 ∨ (c = 0 ∧ i = 0 ∧ x = 0)) ∧ (k ≠ 7 ∨ (p = 0 ∧ q = 0 ∧ u = 0 ∧ v = 0 ∧ c = 0 ∧ i = 0 ∧ x = 0))
/-- all that is asked of a fault, its place apart -/
abbrev rtP (n : Int) (k p q u v c i x : Int) : Prop := 1 ≤ k ∧ k ≤ 7 ∧ 0 ≤ c ∧ c < n ∧ 0 ≤ i ∧ i < 576 ∧ 0 ≤ x ∧ x < 256 ∧ kOk k p q u v c i x

/-- may a fault be -/
def rtF (n : Int) (h : Bool) (k p q u v c i x : Int) : Bool := h && decide (rtP n k p q u v c i x)
theorem rtF_is (n : Int) (h : Bool) (k p q u v c i x : Int) (z : Bool) (e : z = true ↔ (h = true ∧ rtP n k p q u v c i x)) : z = rtF n h k p q u v c i x := by
  unfold rtF
  rw [Bool.eq_iff_iff, e]
  simp
theorem fRight_any (k p q u v c i x : Int) (r s b o d m n j : Int) (hm : Md m n j) (w : World) :
    Calls Try.prog 31 #[.agg #[.int .i64 k, .int .i64 p, .int .i64 q, .int .i64 u, .int .i64 v, .int .i64 c, .int .i64 i, .int .i64 x], .agg #[.int .i64 r, .int .i64 s, .int .i64 b, .int .i64 o, .int .i64 d], .int .i64 m] w fun e w' => e = .returned (.bool (rtF n (hd r s b o d p q u v) k p q u v c i x)) ∧ Below w.heap.size w w' := by
  by_cases h1 : k = 1
  · subst h1
    refine (fRight_core 1 p q u v c i x r s b o d m n j hm (1) (p) (q) (u) (v) (0) (i) (0) (fun w => own_flip p q u v c i x w) w).mono ?_
    rintro e w' ⟨rfl, hb⟩
    refine ⟨congrArg (fun y => Ending.returned (.bool y)) (rtF_is n (hd r s b o d p q u v) 1 p q u v c i x _ ?_), hb⟩
    rw [Bool.and_eq_true, Bool.and_eq_true, Bool.and_eq_true, Bool.and_eq_true, Bool.and_eq_true]
    simp only [decide_eq_true_eq]
    unfold rtP kOk
    generalize hd r s b o d p q u v = z
    rw [if_neg (by omega)]
    cases z <;> simp only [Bool.false_eq_true, false_and, and_false, true_and] <;> try omega
  by_cases h2 : k = 2
  · subst h2
    refine (fRight_core 2 p q u v c i x r s b o d m n j hm (2) (p) (q) (u) (v) (0) (i) (x) (fun w => own_stuck p q u v c i x w) w).mono ?_
    rintro e w' ⟨rfl, hb⟩
    refine ⟨congrArg (fun y => Ending.returned (.bool y)) (rtF_is n (hd r s b o d p q u v) 2 p q u v c i x _ ?_), hb⟩
    rw [Bool.and_eq_true, Bool.and_eq_true, Bool.and_eq_true, Bool.and_eq_true, Bool.and_eq_true]
    simp only [decide_eq_true_eq]
    unfold rtP kOk
    generalize hd r s b o d p q u v = z
    rw [if_pos trivial]
    cases z <;> simp only [Bool.false_eq_true, false_and, and_false, true_and, and_true] <;> try omega
  by_cases h3 : k = 3
  · subst h3
    refine (fRight_core 3 p q u v c i x r s b o d m n j hm (3) (p) (q) (u) (0) (c) (0) (x) (fun w => own_row p q u v c i x w) w).mono ?_
    rintro e w' ⟨rfl, hb⟩
    refine ⟨congrArg (fun y => Ending.returned (.bool y)) (rtF_is n (hd r s b o d p q u v) 3 p q u v c i x _ ?_), hb⟩
    rw [Bool.and_eq_true, Bool.and_eq_true, Bool.and_eq_true, Bool.and_eq_true, Bool.and_eq_true]
    simp only [decide_eq_true_eq]
    unfold rtP kOk
    generalize hd r s b o d p q u v = z
    rw [if_neg (by omega)]
    cases z <;> simp only [Bool.false_eq_true, false_and, and_false, true_and, and_true] <;> try omega
  by_cases h4 : k = 4
  · subst h4
    refine (fRight_core 4 p q u v c i x r s b o d m n j hm (4) (p) (q) (0) (v) (c) (0) (x) (fun w => own_col p q u v c i x w) w).mono ?_
    rintro e w' ⟨rfl, hb⟩
    refine ⟨congrArg (fun y => Ending.returned (.bool y)) (rtF_is n (hd r s b o d p q u v) 4 p q u v c i x _ ?_), hb⟩
    rw [Bool.and_eq_true, Bool.and_eq_true, Bool.and_eq_true, Bool.and_eq_true, Bool.and_eq_true]
    simp only [decide_eq_true_eq]
    unfold rtP kOk
    generalize hd r s b o d p q u v = z
    rw [if_neg (by omega)]
    cases z <;> simp only [Bool.false_eq_true, false_and, and_false, true_and, and_true] <;> try omega
  by_cases h5 : k = 5
  · subst h5
    refine (fRight_core 5 p q u v c i x r s b o d m n j hm (5) (p) (0) (0) (0) (c) (0) (x) (fun w => own_chip p q u v c i x w) w).mono ?_
    rintro e w' ⟨rfl, hb⟩
    refine ⟨congrArg (fun y => Ending.returned (.bool y)) (rtF_is n (hd r s b o d p q u v) 5 p q u v c i x _ ?_), hb⟩
    rw [Bool.and_eq_true, Bool.and_eq_true, Bool.and_eq_true, Bool.and_eq_true, Bool.and_eq_true]
    simp only [decide_eq_true_eq]
    unfold rtP kOk
    generalize hd r s b o d p q u v = z
    rw [if_neg (by omega)]
    cases z <;> simp only [Bool.false_eq_true, false_and, and_false, true_and, and_true] <;> try omega
  by_cases h6 : k = 6
  · subst h6
    refine (fRight_core 6 p q u v c i x r s b o d m n j hm (6) (p) (q) (u) (v) (0) (0) (0) (fun w => own_stray p q u v c i x w) w).mono ?_
    rintro e w' ⟨rfl, hb⟩
    refine ⟨congrArg (fun y => Ending.returned (.bool y)) (rtF_is n (hd r s b o d p q u v) 6 p q u v c i x _ ?_), hb⟩
    rw [Bool.and_eq_true, Bool.and_eq_true, Bool.and_eq_true, Bool.and_eq_true, Bool.and_eq_true]
    simp only [decide_eq_true_eq]
    unfold rtP kOk
    generalize hd r s b o d p q u v = z
    rw [if_neg (by omega)]
    cases z <;> simp only [Bool.false_eq_true, false_and, and_false, true_and] <;> try omega
  · skip
    refine (fRight_core k p q u v c i x r s b o d m n j hm (k) (0) (0) (0) (0) (0) (0) (0) (fun w => own_rest k p q u v c i x (by simpa using h1) (by simpa using h2) (by simpa using h3) (by simpa using h4) (by simpa using h5) (by simpa using h6) w) w).mono ?_
    rintro e w' ⟨rfl, hb⟩
    refine ⟨congrArg (fun y => Ending.returned (.bool y)) (rtF_is n (hd r s b o d p q u v) k p q u v c i x _ ?_), hb⟩
    rw [Bool.and_eq_true, Bool.and_eq_true, Bool.and_eq_true, Bool.and_eq_true, Bool.and_eq_true]
    simp only [decide_eq_true_eq]
    unfold rtP kOk
    generalize hd r s b o d p q u v = z
    rw [if_neg (by omega)]
    cases z <;> simp only [Bool.false_eq_true, false_and, and_false, true_and] <;> try omega
end Go.Proofs.Ytcpjmfemgdgplaa

/-
  The walks of package fault: where a fault lies.
-/
namespace Go.Proofs.Ytcpjmfemgdgplaa
open Go.RowKit Go.Shelf
open Ge (pw rt hd ix)
attribute [local go_sem] Oper.semAt_some

/-- does a fault lie there -/
def lz (k p q u v p' q' u' v' : Int) : Bool := (nw k || ls k) && decide (p' = p ∧ nq k q' = nq k q ∧ nu k u' = nu k u ∧ nv k v' = nv k v)
/-- what Lies was given -/
structure Lf (B C : Nat) (k p q u v c i x : Int) (p' q' u' v' : Int) (w W : World) : Prop where
  f : Ft W B k p q u v c i x
  g : Pl W C p' q' u' v'
  n : Below B w W
  l : B ≤ W.heap.size
theorem Lf.next {B C : Nat} {k p q u v c i x : Int} {p' q' u' v' : Int} {w W W' : World} (h : Lf B C k p q u v c i x p' q' u' v' w W) (e : Below W.heap.size W W') : Lf B C k p q u v c i x p' q' u' v' w W' :=
  ⟨h.f.next e, h.g.next e, h.n.trans (e.mono h.l), Nat.le_trans h.l e.size⟩
set_option maxRecDepth 100000 in
set_option maxHeartbeats 4000000 in
theorem lies_any (k p q u v c i x : Int) (p' q' u' v' : Int) (w : World) :
    Calls Try.prog 29 #[.agg #[.int .i64 k, .int .i64 p, .int .i64 q, .int .i64 u, .int .i64 v, .int .i64 c, .int .i64 i, .int .i64 x], .agg #[.int .i64 p', .int .i64 q', .int .i64 u', .int .i64 v']] w fun e w' => e = .returned (.bool (lz k p q u v p' q' u' v')) ∧ Below w.heap.size w w' := by
  obtain ⟨z0, Z0⟩ : ∃ z, nw k = z := ⟨_, rfl⟩
  obtain ⟨z1, Z1⟩ : ∃ z, ls k = z := ⟨_, rfl⟩
  obtain ⟨z2, Z2⟩ : ∃ z, decide (p' = p ∧ nq k q' = nq k q ∧ nu k u' = nu k u ∧ nv k v' = nv k v) = z := ⟨_, rfl⟩
  have C0 : Hid (∀ w : World, Calls Try.prog 28 #[.agg #[.int .i64 k, .int .i64 p, .int .i64 q, .int .i64 u, .int .i64 v, .int .i64 c, .int .i64 i, .int .i64 x]] w fun e w' => e = .returned (.bool z0) ∧ Below w.heap.size w w') := fun w => by rw [← Z0]; exact narrow_any k p q u v c i x w
  have C1 : Hid (∀ w : World, Calls Try.prog 27 #[.agg #[.int .i64 k, .int .i64 p, .int .i64 q, .int .i64 u, .int .i64 v, .int .i64 c, .int .i64 i, .int .i64 x]] w fun e w' => e = .returned (.bool z1) ∧ Below w.heap.size w w') := fun w => by rw [← Z1]; exact lasts_any k p q u v c i x w
  have C2 : Hid (∀ w : World, (binOp .eql 36 (.agg #[.int .i64 p', .int .i64 (nq k q'), .int .i64 (nu k u'), .int .i64 (nv k v')]) (.agg #[.int .i64 p, .int .i64 (nq k q), .int .i64 (nu k u), .int .i64 (nv k v)])).run Try.prog w = .ok (.bool z2) w) := fun w => by rw [← Z2]; exact eqP_eql p' (nq k q') (nu k u') (nv k v') p (nq k q) (nu k u) (nv k v) w
  have C3 : Hid (∀ w : World, Calls Try.prog 54 #[.agg #[.int .i64 k, .int .i64 p, .int .i64 q, .int .i64 u, .int .i64 v, .int .i64 c, .int .i64 i, .int .i64 x], .agg #[.int .i64 p', .int .i64 q', .int .i64 u', .int .i64 v']] w fun e w' => e = .returned (.agg #[.int .i64 p', .int .i64 (nq k q'), .int .i64 (nu k u'), .int .i64 (nv k v')]) ∧ Below w.heap.size w w') := fun w => named_any k p q u v c i x p' q' u' v' w
  have C4 : Hid (∀ w : World, Calls Try.prog 54 #[.agg #[.int .i64 k, .int .i64 p, .int .i64 q, .int .i64 u, .int .i64 v, .int .i64 c, .int .i64 i, .int .i64 x], .agg #[.int .i64 p, .int .i64 q, .int .i64 u, .int .i64 v]] w fun e w' => e = .returned (.agg #[.int .i64 p, .int .i64 (nq k q), .int .i64 (nu k u), .int .i64 (nv k v)]) ∧ Below w.heap.size w w') := fun w => named_any k p q u v c i x p q u v w
  unfold lz
  rw [Z0, Z1, Z2]
  clear Z0 Z1 Z2
  go_enter Try.func29, Try.ntmps29
  go_upto_region 1 with (fail)
  obtain ⟨B, hB⟩ : ∃ B, w.heap.size = B := ⟨_, rfl⟩
  obtain ⟨C, hC⟩ : ∃ C, B + 1 = C := ⟨_, rfl⟩
  obtain ⟨V, hV⟩ : ∃ V, (w.alloc (.cells #[.int .i64 k, .int .i64 p, .int .i64 q, .int .i64 u, .int .i64 v, .int .i64 c, .int .i64 i, .int .i64 x] 38)).alloc (.cells #[.int .i64 p', .int .i64 q', .int .i64 u', .int .i64 v'] 36) = V := ⟨_, rfl⟩
  have HS : Hid (Lf B C k p q u v c i x p' q' u' v' w V) := by
    rw [← hV, ← hC, ← hB]
    have h1 := Pl.new (w.alloc (.cells #[.int .i64 k, .int .i64 p, .int .i64 q, .int .i64 u, .int .i64 v, .int .i64 c, .int .i64 i, .int .i64 x] 38)) p' q' u' v' 36
    simp only [World.size_alloc] at h1
    exact ⟨(Ft.new w k p q u v c i x _).alloc _, h1, ((Below.refl _ w).alloc (Nat.le_refl _) _).alloc (by simp) _, by simp only [World.size_alloc]; omega⟩
  rw [hV, hB, hC]
  clear hV hC
  cases z0 with
  | true =>
    go_upto_region 3 with (first
        | refine wpList_load_mid rfl 38 _ rfl B 0 rfl [.int .i64 k, .int .i64 p, .int .i64 q, .int .i64 u, .int .i64 v, .int .i64 c, .int .i64 i, .int .i64 x] _ (by exact HS.out.f.range) Try.underlying38 rfl infoF ?_
        | refine wpList_load_g (by rfl) 38 _ rfl B 0 rfl [.int .i64 k, .int .i64 p, .int .i64 q, .int .i64 u, .int .i64 v, .int .i64 c, .int .i64 i, .int .i64 x] _ (by exact HS.out.f.range) Try.underlying38 rfl infoF ?_
        | (go_at_call 28; refine (C0.out _).mono ?_; rintro e W1 ⟨rfl, b1⟩; replace HS : Hid (Lf B C k p q u v c i x p' q' u' v' w W1) := HS.out.next b1; clear b1)
        | (go_at_call 27; refine (C1.out _).mono ?_; rintro e W2 ⟨rfl, b1⟩; replace HS : Hid (Lf B C k p q u v c i x p' q' u' v' w W2) := HS.out.next b1; clear b1))
    obtain ⟨V3, hV3⟩ : ∃ V3, V3 = W1 := ⟨_, rfl⟩
    rw [← hV3] at HS ⊢
    clear hV3
    refine region_calm (by kernel_rfl) (by kernel_rfl) (fun W => Below V3.heap.size V3 W) (below_drew1 V3) ?_
    intro U hU f hf hof
    have HN : Hid (∀ u W, Below (f u).heap.size (f u) W → ∃ x, W = f x) := fun u W h => hof W ((hf u).trans (h.mono (hf u).size))
    have HE : Hid (∀ y, Lf B C k p q u v c i x p' q' u' v' w (f y)) := fun y => HS.out.next (hf y)
    have gd := eqP_gd
    clear hf hof HS
    refine quiet_load rfl 38 _ rfl B 0 rfl [.int .i64 k, .int .i64 p, .int .i64 q, .int .i64 u, .int .i64 v, .int .i64 c, .int .i64 i, .int .i64 x] _ (by rintro _ ⟨y, rfl⟩; exact (HE.out y).f.range) Try.underlying38 rfl infoF ?_
    simp only [Act.put, List.setIfInBounds_toArray, List.set_cons_zero, List.set_cons_succ]
    refine quiet_load rfl 36 _ rfl C 0 rfl [.int .i64 p', .int .i64 q', .int .i64 u', .int .i64 v'] _ (by rintro _ ⟨y, rfl⟩; exact Pl.range (HE.out y).g) Try.underlying36 rfl infoP ?_
    simp only [Act.put, List.setIfInBounds_toArray, List.set_cons_zero, List.set_cons_succ]
    go_big_quiet_step ((go_at_call 54; exact calm_next HN.out (C3.out _)))
    refine quiet_load rfl 38 _ rfl B 0 rfl [.int .i64 k, .int .i64 p, .int .i64 q, .int .i64 u, .int .i64 v, .int .i64 c, .int .i64 i, .int .i64 x] _ (by rintro _ ⟨y, rfl⟩; exact (HE.out y).f.range) Try.underlying38 rfl infoF ?_
    simp only [Act.put, List.setIfInBounds_toArray, List.set_cons_zero, List.set_cons_succ]
    go_big_quiet_step (fail)
    refine quiet_load rfl 36 _ rfl B 1 rfl [.int .i64 p, .int .i64 q, .int .i64 u, .int .i64 v] _ (by rintro _ ⟨y, rfl⟩; exact (HE.out y).f.place) Try.underlying36 rfl infoP ?_
    simp only [Act.put, List.setIfInBounds_toArray, List.set_cons_zero, List.set_cons_succ]
    go_big_quiet_step ((go_at_call 54; exact calm_next HN.out (C4.out _)))
    refine quiet_one rfl _ (exec_eqlA 36 _ _ _ rfl _ _ _ rfl rfl gd (fun w => C2.out w)) ?_
    simp only [Act.put, List.setIfInBounds_toArray, List.set_cons_zero, List.set_cons_succ]
    go_big_quiet_step (fail)
    refine wpQuiet_nil ?_
    rintro _ ⟨y, rfl⟩
    go_wp2
    go_ret
    exact ⟨rfl, by first | exact (HE.out y).n | (rw [hB]; exact (HE.out y).n)⟩
  | false =>
    cases z1 with
    | true =>
      go_upto_region 3 with (first
          | refine wpList_load_mid rfl 38 _ rfl B 0 rfl [.int .i64 k, .int .i64 p, .int .i64 q, .int .i64 u, .int .i64 v, .int .i64 c, .int .i64 i, .int .i64 x] _ (by exact HS.out.f.range) Try.underlying38 rfl infoF ?_
          | refine wpList_load_g (by rfl) 38 _ rfl B 0 rfl [.int .i64 k, .int .i64 p, .int .i64 q, .int .i64 u, .int .i64 v, .int .i64 c, .int .i64 i, .int .i64 x] _ (by exact HS.out.f.range) Try.underlying38 rfl infoF ?_
          | (go_at_call 28; refine (C0.out _).mono ?_; rintro e W1 ⟨rfl, b1⟩; replace HS : Hid (Lf B C k p q u v c i x p' q' u' v' w W1) := HS.out.next b1; clear b1)
          | (go_at_call 27; refine (C1.out _).mono ?_; rintro e W2 ⟨rfl, b1⟩; replace HS : Hid (Lf B C k p q u v c i x p' q' u' v' w W2) := HS.out.next b1; clear b1))
      obtain ⟨V3, hV3⟩ : ∃ V3, V3 = W2 := ⟨_, rfl⟩
      rw [← hV3] at HS ⊢
      clear hV3
      refine region_calm (by kernel_rfl) (by kernel_rfl) (fun W => Below V3.heap.size V3 W) (below_drew1 V3) ?_
      intro U hU f hf hof
      have HN : Hid (∀ u W, Below (f u).heap.size (f u) W → ∃ x, W = f x) := fun u W h => hof W ((hf u).trans (h.mono (hf u).size))
      have HE : Hid (∀ y, Lf B C k p q u v c i x p' q' u' v' w (f y)) := fun y => HS.out.next (hf y)
      have gd := eqP_gd
      clear hf hof HS
      refine quiet_load rfl 38 _ rfl B 0 rfl [.int .i64 k, .int .i64 p, .int .i64 q, .int .i64 u, .int .i64 v, .int .i64 c, .int .i64 i, .int .i64 x] _ (by rintro _ ⟨y, rfl⟩; exact (HE.out y).f.range) Try.underlying38 rfl infoF ?_
      simp only [Act.put, List.setIfInBounds_toArray, List.set_cons_zero, List.set_cons_succ]
      refine quiet_load rfl 36 _ rfl C 0 rfl [.int .i64 p', .int .i64 q', .int .i64 u', .int .i64 v'] _ (by rintro _ ⟨y, rfl⟩; exact Pl.range (HE.out y).g) Try.underlying36 rfl infoP ?_
      simp only [Act.put, List.setIfInBounds_toArray, List.set_cons_zero, List.set_cons_succ]
      go_big_quiet_step ((go_at_call 54; exact calm_next HN.out (C3.out _)))
      refine quiet_load rfl 38 _ rfl B 0 rfl [.int .i64 k, .int .i64 p, .int .i64 q, .int .i64 u, .int .i64 v, .int .i64 c, .int .i64 i, .int .i64 x] _ (by rintro _ ⟨y, rfl⟩; exact (HE.out y).f.range) Try.underlying38 rfl infoF ?_
      simp only [Act.put, List.setIfInBounds_toArray, List.set_cons_zero, List.set_cons_succ]
      go_big_quiet_step (fail)
      refine quiet_load rfl 36 _ rfl B 1 rfl [.int .i64 p, .int .i64 q, .int .i64 u, .int .i64 v] _ (by rintro _ ⟨y, rfl⟩; exact (HE.out y).f.place) Try.underlying36 rfl infoP ?_
      simp only [Act.put, List.setIfInBounds_toArray, List.set_cons_zero, List.set_cons_succ]
      go_big_quiet_step ((go_at_call 54; exact calm_next HN.out (C4.out _)))
      refine quiet_one rfl _ (exec_eqlA 36 _ _ _ rfl _ _ _ rfl rfl gd (fun w => C2.out w)) ?_
      simp only [Act.put, List.setIfInBounds_toArray, List.set_cons_zero, List.set_cons_succ]
      go_big_quiet_step (fail)
      refine wpQuiet_nil ?_
      rintro _ ⟨y, rfl⟩
      go_wp2
      go_ret
      exact ⟨rfl, by first | exact (HE.out y).n | (rw [hB]; exact (HE.out y).n)⟩
    | false =>
      go_wp2_with (first
          | refine wpList_load_mid rfl 38 _ rfl B 0 rfl [.int .i64 k, .int .i64 p, .int .i64 q, .int .i64 u, .int .i64 v, .int .i64 c, .int .i64 i, .int .i64 x] _ (by exact HS.out.f.range) Try.underlying38 rfl infoF ?_
          | refine wpList_load_g (by rfl) 38 _ rfl B 0 rfl [.int .i64 k, .int .i64 p, .int .i64 q, .int .i64 u, .int .i64 v, .int .i64 c, .int .i64 i, .int .i64 x] _ (by exact HS.out.f.range) Try.underlying38 rfl infoF ?_
          | (go_at_call 28; refine (C0.out _).mono ?_; rintro e W1 ⟨rfl, b1⟩; replace HS : Hid (Lf B C k p q u v c i x p' q' u' v' w W1) := HS.out.next b1; clear b1)
          | (go_at_call 27; refine (C1.out _).mono ?_; rintro e W2 ⟨rfl, b1⟩; replace HS : Hid (Lf B C k p q u v c i x p' q' u' v' w W2) := HS.out.next b1; clear b1))
      go_ret
      exact ⟨rfl, by first | exact HS.out.n | (rw [hB]; exact HS.out.n)⟩
end Go.Proofs.Ytcpjmfemgdgplaa

/-
  copy between blocks of bytes.
-/
namespace Go.Proofs.Ytcpjmfemgdgplaa
open Go.RowKit
attribute [local go_sem] Oper.semAt_some

/-- what the builtin does -/
theorem run_cpy (w : World) (rt : TypeId) (g off dLen dCap sb so sLen sCap n k : Nat) (F G : Nat → Int) (hg : Bk .u8 w g n F) (hk : k = Nat.min sLen dLen)
    (hsrc : ∀ j : Nat, j < k → w.cell? ⟨sb, so + j, none⟩ = some (.int .u8 (G j))) (hfit : off + k ≤ n) :
    ∃ w', (Builtin.copy_ #[105, 105] rt #[.slice (some ⟨g, off, none⟩) dLen dCap, .slice (some ⟨sb, so, none⟩) sLen sCap]).run Try.prog w = .ok (goInt k) w' ∧ Bk .u8 w' g n (lay F off k G) ∧ Just g w w' := by
  obtain ⟨t, hg⟩ := hg
  have hrun := run_copy_row (P := Try.prog) w 105 105 rt 5 g off dLen dCap ⟨sb, so, none⟩ sLen sCap (ints .u8 n F).toArray t (ints .u8 k G) Try.underlying105 byte_size hg (by rw [ints_len]; exact hk)
    (fun j v hv => by
      have hj : j < k := by have := (List.getElem?_eq_some_iff.1 hv).1; rw [ints_len] at this; exact this
      rw [ints_at .u8 k G j hj] at hv
      cases hv
      rw [Addr.add_mid]; exact hsrc j hj) (by simp [ints_len]; omega) (ints_one' .u8 k G)
  rw [ints_len] at hrun
  refine ⟨_, hrun, ⟨t, ?_⟩, ⟨fun B w0 hb hB => below_setRow hb hB _, fun k hk => setRow_other w g k _ hk⟩⟩
  rw [← splice_ints .u8 n F off k G hfit, setRow_heap w g _ _ t _ hg]
  simp [splice, ints_len]
/-- as an operation -/
theorem wp_cpy {o : Oper} {a : Act} {w : World} {K : Act → World → Prop} {Q : Exit → Act → World → Prop} (d s : Operand)
    (ho : o.op = .call { callee := .builtin .copy, args := #[d, s], argTypes := #[105, 105] })
    (g off dLen dCap sb so sLen sCap n k : Nat) (F G : Nat → Int) (hd : a.eval d = .slice (some ⟨g, off, none⟩) dLen dCap) (hs : a.eval s = .slice (some ⟨sb, so, none⟩) sLen sCap)
    (hg : Bk .u8 w g n F) (hk : k = Nat.min sLen dLen) (hsrc : ∀ j : Nat, j < k → w.cell? ⟨sb, so + j, none⟩ = some (.int .u8 (G j))) (hfit : off + k ≤ n)
    (h : ∀ w', Hid (Bk .u8 w' g n (lay F off k G)) → Hid (Just g w w') → K (a.put o.dst (goInt k)) w') : Oper.wp Try.prog o a w K Q := by
  obtain ⟨w', hrun, h1, h2⟩ := run_cpy w o.type g off dLen dCap sb so sLen sCap n k F G hg hk hsrc hfit
  unfold Oper.wp
  simp [execOp, ho, resolve, invoke, builtin, hd, hs, hrun, Result.andThen]
  exact h w' h1 h2
/-- in a region that draws its order (go_region_held3) -/
theorem step_cpys {ops : Array Oper} {o : Oper} {a : Act} {w : World} {K : Act → World → Prop} {Q : Exit → Act → World → Prop} {E : Prop} (hgd : o.guard = none) (d s : Operand)
    (ho : o.op = .call { callee := .builtin .copy, args := #[d, s], argTypes := #[105, 105] })
    (g off dLen dCap sb so sLen sCap n k : Nat) (F G : Nat → Int) (hd : a.eval d = .slice (some ⟨g, off, none⟩) dLen dCap) (hs : a.eval s = .slice (some ⟨sb, so, none⟩) sLen sCap)
    (hg : Bk .u8 w g n F) (hk : k = Nat.min sLen dLen) (hsrc : ∀ j : Nat, j < k → w.cell? ⟨sb, so + j, none⟩ = some (.int .u8 (G j))) (hfit : off + k ≤ n)
    (h : ∀ w', Hid (Bk .u8 w' g n (lay F off k G)) → Hid (Just g w w') → K (a.put o.dst (goInt k)) w') :
    if Region.wanted o (yielded ops a.tmps) = true then Oper.wp Try.prog o a w K Q else E := by
  have hw : Region.wanted o (yielded ops a.tmps) = true := by simp [Region.wanted, hgd]
  rw [if_pos hw]
  exact wp_cpy d s ho g off dLen dCap sb so sLen sCap n k F G hd hs hg hk hsrc hfit h
/-- in a plain region -/
theorem wpList_cpy {w : World} {ops : Array Oper} {rest : List Oper} {o : Oper} {a : Act} {Q : Exit → Act → World → Prop} (hgd : o.guard = none) (d s : Operand)
    (ho : o.op = .call { callee := .builtin .copy, args := #[d, s], argTypes := #[105, 105] })
    (g off dLen dCap sb so sLen sCap n k : Nat) (F G : Nat → Int) (hd : a.eval d = .slice (some ⟨g, off, none⟩) dLen dCap) (hs : a.eval s = .slice (some ⟨sb, so, none⟩) sLen sCap)
    (hg : Bk .u8 w g n F) (hk : k = Nat.min sLen dLen) (hsrc : ∀ j : Nat, j < k → w.cell? ⟨sb, so + j, none⟩ = some (.int .u8 (G j))) (hfit : off + k ≤ n)
    (h : ∀ w', Hid (Bk .u8 w' g n (lay F off k G)) → Hid (Just g w w') → wpList Try.prog ops Q rest (a.put o.dst (goInt k)) w') : wpList Try.prog ops Q (o :: rest) a w := by
  refine wpList_plain hgd fun K hK => ?_
  exact wp_cpy d s ho g off dLen dCap sb so sLen sCap n k F G hd hs hg hk hsrc hfit fun w' h1 h2 => hK _ _ (h w' h1 h2)
end Go.Proofs.Ytcpjmfemgdgplaa

/-
  A word's bytes told, and put.
-/
namespace Go.Proofs.Ytcpjmfemgdgplaa
open Go.RowKit Go.Shelf
attribute [local go_sem] Oper.semAt_some

theorem info9 : (Try.prog.info? 5).map (fun i => (i.zero, i.size, i.bytes)) = some (some (.int .u8 0), 1, 1) := by kernel_rfl
set_option maxRecDepth 100000 in
theorem run_make9 (n : Nat) (hn : n ≤ 1000) (w : World) : (Instr.makeSlice 105 (.int .i64 (n : Int)) (.int .i64 (n : Int))).run Try.prog w = .ok (.slice (some ⟨w.heap.size, 0, none⟩) n n) (w.alloc (.cells (ints .u8 n fun _ => 0).toArray 5)) := by
  have h := run_make_row' (P := Try.prog) 105 5 (.int .u8 0) 1 Try.underlying105 info9 rfl .i64 .i64 n (by omega) (by omega) w
  rw [h]
  congr 3
  unfold madeCells ints
  refine Array.ext' ?_
  simp [Nat.mod_one]
theorem cutR (b o : Nat) (ho : o < 72) (w : World) : (Instr.sliceAt 40 (.pointer (some ⟨b, 0, none⟩)) (some (.int .i64 (o : Int))) none none).run Try.prog w = .ok (.slice (some ⟨b, o, none⟩) (72 - o) (72 - o)) w := by
  have h1 : (o : Int) ≤ 72 := by omega
  have h2 : ¬ 72 = o := by omega
  simp [Instr.sliceAt, go_sem]
  rw [if_pos h1, if_neg h2]

end Go.Proofs.Ytcpjmfemgdgplaa

/-
  Bits turned and forced, by the program.
-/
namespace Go.Proofs.Ytcpjmfemgdgplaa
open Go.RowKit Go.Shelf
attribute [local go_sem] Oper.semAt_some

theorem cut0R (b : Nat) (w : World) : (Instr.sliceAt 40 (.pointer (some ⟨b, 0, none⟩)) none none none).run Try.prog w = .ok (.slice (some ⟨b, 0, none⟩) 72 72) w := by
  simp [Instr.sliceAt, go_sem]
theorem exec_sliceR {P : Program} {o : Oper} {a : Act} (t : TypeId) (x : Operand) (ho : o.op = .slice t x none none none) (vx v : Value) (hx : a.eval x = vx)
    (h : ∀ w, (Instr.sliceAt t vx none none none).run P w = .ok v w) (w : World) : (execOp a.eval o).run P w = .ok (.value v) w := by
  simp [execOp, ho, hx, h]
/-- a slice of all of a block, as functions of Nat -/
theorem all_sl (F : Nat → Int) (w : World) (B : Nat) (hF : Byts 72 F) (h : Bk .u8 w B 72 F) : Sl w (some ⟨B, 0, none⟩) 72 72 (pc F 0 72) := pc_sl F w B 0 72 72 hF h (by omega) (by omega)
theorem pc_at (F : Nat → Int) (hF : Byts 72 F) (j : Nat) (hj : j < 72) : ((pc F 0 72 j : Nat) : Int) = F j := by
  have := hF j hj
  unfold pc
  rw [if_pos hj, Nat.zero_add]; omega

set_option maxRecDepth 100000 in
set_option maxHeartbeats 1000000 in
theorem flipR_core (F : Nat → Int) (b : Int) (G : Nat → Nat) (hcall : ∀ (B : Nat) (W : World), Bk .u8 W B 72 F → Calls Try.prog 63 #[.slice (some ⟨B, 0, none⟩) 72 72, .int .i64 b] W fun e w' => ∃ a' c', e = .returned (.slice a' 72 c') ∧ NewSl W w' a' 72 c' G) (w : World) :
    Calls Try.prog 33 #[.agg (ints .u8 72 F).toArray, .int .i64 b] w fun e w' => e = .returned (.agg (ints .u8 72 fun j => (G j : Int)).toArray) ∧ Below w.heap.size w w' := by
  have hz := zeroR
  obtain ⟨A0, hA0⟩ : ∃ A, (ints .u8 72 F).toArray = A := ⟨_, rfl⟩
  obtain ⟨Z, hZ⟩ : ∃ A, (ints .u8 72 fun _ => 0).toArray = A := ⟨_, rfl⟩
  rw [hA0]
  rw [hZ] at hz
  have HC : Hid (∀ (B : Nat) (W : World), Bk .u8 W B 72 F → Calls Try.prog 63 #[.slice (some ⟨B, 0, none⟩) 72 72, .int .i64 b] W fun e w' => ∃ a' c', e = .returned (.slice a' 72 c') ∧ NewSl W w' a' 72 c' G) := hcall
  clear hcall
  go_enter Try.func33, Try.ntmps33
  go_upto_region 1 with (fail)
  obtain ⟨V, hV⟩ : ∃ V, (w.alloc (.cells A0 40)).alloc (.cells Z 40) = V := ⟨_, rfl⟩
  have HI : Hid (Bk .u8 V w.heap.size 72 F ∧ Bk .u8 V (w.heap.size + 1) 72 (fun _ => 0) ∧ Below w.heap.size w V) := by
    rw [← hV, ← hA0, ← hZ]
    have h1 := Bk.new .u8 (w.alloc (.cells (ints .u8 72 F).toArray 40)) 72 (fun _ => 0) 40
    simp only [World.size_alloc] at h1
    exact ⟨(Bk.new .u8 w 72 F _).alloc _, h1, ((Below.refl _ w).alloc (Nat.le_refl _) _).alloc (by simp) _⟩
  obtain ⟨B, hB⟩ : ∃ B, w.heap.size = B := ⟨_, rfl⟩
  obtain ⟨D, hD⟩ : ∃ D, B + 1 = D := ⟨_, rfl⟩
  rw [hV]
  rw [hB, hD] at HI ⊢
  have lD : B ≤ D := by omega
  have nD : D ≠ B := by omega
  clear hV hZ hA0 hz
  refine region_ends (by kernel_rfl) (fun _ => True) (fun a' w' => (∃ v8, a' = ({ tmps := #[.agg A0, .int .i64 b, .pointer (some ⟨B, 0, none⟩), undef, .pointer (some ⟨D, 0, none⟩), .slice (some ⟨B, 0, none⟩) 72 72, .slice (some ⟨B, 0, none⟩) 72 72, .int .i64 b, v8, goInt 72, undef], defers := [] } : Act)) ∧ Bk .u8 w' B 72 (fun j => (G j : Int)) ∧ Bk .u8 w' D 72 (fun _ => 0) ∧ Below B w w') trivial (fun hH => ?_) ?_
  · refine take_pure 0 (v := .slice (some ⟨B, 0, none⟩) 72 72) rfl (by kernel_rfl) rfl (fun w' hw => exec_sliceR _ _ rfl _ _ rfl (cut0R B) w') hH ?_
    refine take_pure 1 (v := .slice (some ⟨B, 0, none⟩) 72 72) rfl (by kernel_rfl) rfl (fun w' hw => exec_sliceR _ _ rfl _ _ rfl (cut0R B) w') hH ?_
    refine take_pure 2 (v := .int .i64 b) rfl (by kernel_rfl) rfl (fun w' hw => by simp [execOp, go_sem]) hH ?_
    refine take_one 3 rfl rfl (by kernel_rfl) ?_
    refine wp_contract 63 [.tmp 6, .tmp 7] _ rfl (enters_of Try.func63 (by kernel_rfl) rfl) [.slice (some ⟨B, 0, none⟩) 72 72, .int .i64 b] rfl (HC.out B V.drew HI.out.1.drew) ?_
    rintro e W' ⟨a', c', rfl, hN⟩
    refine ⟨_, rfl, trivial, fun hH => ?_⟩
    obtain ⟨g, rfl, hg, _⟩ := hN.fresh (by omega)
    obtain ⟨g', o', e', hc⟩ := hN.sl.cells (by omega)
    cases e'
    have hbl : Below V.heap.size V W' := (below_drew1 V).trans hN.below
    refine take_one 4 rfl rfl (by kernel_rfl) ?_
    refine wp_cpy _ _ rfl B 0 72 72 g 0 72 c' 72 72 F (fun j => (G j : Int)) rfl rfl (HI.out.1.next hbl) rfl (fun j hj => hc j hj) (by omega) ?_
    intro V2 g2 k2
    refine ⟨trivial, fun hH2 => ?_⟩
    exact wpAnyH_done (by kernel_rfl) ⟨⟨_, rfl⟩, g2.out.congr fun i hi => by unfold lay; rw [if_pos (by omega), Nat.sub_zero], (HI.out.2.1.next hbl).of (k2.out.block D nD), k2.out.below _ _ (HI.out.2.2.trans (hbl.mono (Nat.le_of_lt HI.out.1.lt))) (Nat.le_refl _)⟩ _
  rintro a' V2 ⟨⟨v8, rfl⟩, h2⟩
  obtain ⟨X, hX⟩ : ∃ X, (fun j => (G j : Int)) = X := ⟨_, rfl⟩
  rw [hX] at h2
  have HE : Hid (Bk .u8 V2 B 72 X ∧ Bk .u8 V2 D 72 (fun _ => 0) ∧ Below B w V2) := h2
  clear h2 HI nD HC
  have hr := HE.out.1.range
  have ht := HE.out.2.1.there .u8 X
  have hi9 : (Try.prog.info? 40).map (·.size) = some (ints .u8 72 X).length := by rw [ints_len]; exact infoR
  have hone := ints_one .u8 72 X
  have HBl := HE.out.2.2
  obtain ⟨L, hL⟩ : ∃ L, ints .u8 72 X = L := ⟨_, rfl⟩
  rw [hL] at hr ht hi9 hone
  have HL : Hid (ints .u8 72 X = L) := hL
  have HB9 : Hid (Below B w V2) := HBl
  clear hL HBl HE
  go_wp2_with (first | refine wpList_load_mid rfl 40 _ rfl _ 0 rfl L _ hr Try.underlying40 rfl hi9 ?_ | refine wpList_store_mid rfl 40 _ _ rfl _ 0 L.toArray rfl rfl ht hi9 hone ?_)
  have hs : (V2.setCells D 0 L).rangeAt D 0 L := World.rangeAt_setCells_same V2 _ 0 L (by simpa using ht)
  have hld := run_loadVar_mid (P := Try.prog) (V2.setCells D 0 L) D 0 40 L _ hs Try.underlying40 rfl hi9
  refine bodyPost_ret (v := .agg L.toArray) ?_ rfl ⟨by rw [hX, HL.out], by rw [hB]; exact belows_put lD L 0 HB9.out⟩
  simp [results, Try.f33, Act.put, asAddr, hld]
/-- F with the bit i turned -/
def flR (F : Nat → Int) (i : Nat) : Nat → Int := fun j => ((flp (pc F 0 72) i j : Nat) : Int)
theorem flR_at (F : Nat → Int) (hF : Byts 72 F) (i j : Nat) (hj : j < 72) : flR F i j = if j = i / 8 then (((F j).toNat ^^^ 2 ^ (i % 8) : Nat) : Int) else F j := by
  have h := pc_at F hF j hj
  unfold flR flp
  by_cases e : j = i / 8
  · rw [if_pos e, if_pos e]; congr 2; omega
  · rw [if_neg e, if_neg e]; exact h
theorem flipR_yes (F : Nat → Int) (hF : Byts 72 F) (i : Nat) (hi : i < 576) (w : World) :
    Calls Try.prog 33 #[.agg (ints .u8 72 F).toArray, .int .i64 (i : Int)] w fun e w' => e = .returned (.agg (ints .u8 72 (flR F i)).toArray) ∧ Below w.heap.size w w' :=
  flipR_core F i (flp (pc F 0 72) i) (fun B W h => flip_yes _ 72 72 (pc F 0 72) i (by omega) (by omega) W (all_sl F W B hF h)) w
theorem flipR_no (F : Nat → Int) (hF : Byts 72 F) (b : Int) (hb : b < 0 ∨ 576 ≤ b) (hb2 : b ≤ 9223372036854775807) (w : World) :
    Calls Try.prog 33 #[.agg (ints .u8 72 F).toArray, .int .i64 b] w fun e w' => e = .returned (.agg (ints .u8 72 F).toArray) ∧ Below w.heap.size w w' := by
  have := flipR_core F b (pc F 0 72) (fun B W h => flip_no _ 72 72 (pc F 0 72) b (by omega) hb2 (by omega) W (all_sl F W B hF h)) w
  rwa [ints_congr .u8 72 _ F (fun j hj => pc_at F hF j hj)] at this
end Go.Proofs.Ytcpjmfemgdgplaa

/-
  Bits forced, by the program and by the document.
-/
namespace Go.Proofs.Ytcpjmfemgdgplaa
open Go.RowKit Go.Shelf
attribute [local go_sem] Oper.semAt_some

theorem i64_and1r (n : Int) : bits .and .i64 n 1 = n % 2 := by
  have h1 : (BitVec.ofInt 64 1).toNat = 2 ^ 1 - 1 := by decide
  have key : (BitVec.ofInt 64 n &&& BitVec.ofInt 64 1).toNat = (n % ((2 ^ 64 : Nat) : Int)).toNat % 2 ^ 1 := by
    rw [BitVec.toNat_and, BitVec.toNat_ofInt, h1, Nat.and_two_pow_sub_one_eq_mod]
  show IntKind.i64.wrap ((BitVec.ofInt 64 n &&& BitVec.ofInt 64 1).toNat : Nat) = n % 2
  rw [key, IntKind.wrap_i64]
  omega
/-- F with the bit i as v -/
def frR (F : Nat → Int) (i v : Nat) : Nat → Int := fun j => if j = i / 8 then ((Rw.fc (F j).toNat (i % 8) v : Nat) : Int) else F j
theorem gb_pc (F : Nat → Int) (i : Nat) (hi : i < 576) : gb (pc F 0 72) i = (F (i / 8)).toNat / 2 ^ (i % 8) % 2 := by
  unfold gb pc
  rw [if_pos (by omega), Nat.zero_add]
theorem frR_stay (F : Nat → Int) (hF : Byts 72 F) (i : Nat) (hi : i < 576) (j : Nat) (hj : j < 72) : F j = frR F i (gb (pc F 0 72) i) j := by
  unfold frR
  by_cases e : j = i / 8
  · have := hF j hj
    rw [if_pos e, gb_pc F i hi, ← e, ← Rw.fc_stay (F j).toNat (by omega) (i % 8) (by omega)]; omega
  · rw [if_neg e]
theorem frR_flip (F : Nat → Int) (hF : Byts 72 F) (i : Nat) (hi : i < 576) (j : Nat) (hj : j < 72) : flR F i j = frR F i (1 - gb (pc F 0 72) i) j := by
  rw [flR_at F hF i j hj]
  unfold frR
  by_cases e : j = i / 8
  · have := hF j hj
    rw [if_pos e, if_pos e, gb_pc F i hi, ← e, ← Rw.fc_flip (F j).toNat (by omega) (i % 8) (by omega)]
  · rw [if_neg e, if_neg e]

theorem getR_yes (F : Nat → Int) (hF : Byts 72 F) (i : Nat) (hi : i < 576) (B : Nat) (W : World) (h : Bk .u8 W B 72 F) :
    Calls Try.prog 77 #[.slice (some ⟨B, 0, none⟩) 72 72, .int .i64 (i : Int)] W fun e w' => e = .returned (.int .i64 (gb (pc F 0 72) i : Int)) ∧ w' = W :=
  get_yes _ 72 72 (pc F 0 72) i (by omega) (by omega) W (all_sl F W B hF h)
set_option maxRecDepth 100000 in
set_option maxHeartbeats 1000000 in
theorem forceR_same (F : Nat → Int) (b value : Int) (g : Int) (hget : ∀ (B : Nat) (W : World), Bk .u8 W B 72 F → Calls Try.prog 77 #[.slice (some ⟨B, 0, none⟩) 72 72, .int .i64 b] W fun e w' => e = .returned (.int .i64 g) ∧ w' = W) (hv : bits .and .i64 value 1 = g) (w : World) :
    Calls Try.prog 61 #[.agg (ints .u8 72 F).toArray, .int .i64 b, .int .i64 value] w fun e w' => e = .returned (.agg (ints .u8 72 F).toArray) ∧ Below w.heap.size w w' := by
  have hz := zeroR
  obtain ⟨A0, hA0⟩ : ∃ A, (ints .u8 72 F).toArray = A := ⟨_, rfl⟩
  obtain ⟨Z, hZ⟩ : ∃ A, (ints .u8 72 fun _ => 0).toArray = A := ⟨_, rfl⟩
  obtain ⟨X, hX⟩ : ∃ X, F = X := ⟨_, rfl⟩
  rw [hA0]
  rw [hZ] at hz
  have HG : Hid (∀ (B : Nat) (W : World), Bk .u8 W B 72 F → Calls Try.prog 77 #[.slice (some ⟨B, 0, none⟩) 72 72, .int .i64 b] W fun e w' => e = .returned (.int .i64 g) ∧ w' = W) := hget
  clear hget
  go_enter Try.func61, Try.ntmps61
  go_upto_region 1 with (fail)
  obtain ⟨V, hV⟩ : ∃ V, (w.alloc (.cells A0 40)).alloc (.cells Z 40) = V := ⟨_, rfl⟩
  have HI : Hid (Bk .u8 V w.heap.size 72 F ∧ Bk .u8 V (w.heap.size + 1) 72 (fun _ => 0) ∧ Below w.heap.size w V) := by
    rw [← hV, ← hA0, ← hZ]
    have h1 := Bk.new .u8 (w.alloc (.cells (ints .u8 72 F).toArray 40)) 72 (fun _ => 0) 40
    simp only [World.size_alloc] at h1
    exact ⟨(Bk.new .u8 w 72 F _).alloc _, h1, ((Below.refl _ w).alloc (Nat.le_refl _) _).alloc (by simp) _⟩
  obtain ⟨B, hB⟩ : ∃ B, w.heap.size = B := ⟨_, rfl⟩
  obtain ⟨D, hD⟩ : ∃ D, B + 1 = D := ⟨_, rfl⟩
  rw [hV]
  rw [hB, hD] at HI ⊢
  have lD : B ≤ D := by omega
  have HF : Hid (A0 = (ints .u8 72 F).toArray) := hA0.symm
  clear hV hZ hA0 hz
  have hct := cut0R B
  go_upto_region 2 with (go_at_call 77; refine (HG.out B _ HI.out.1).mono ?_; rintro e w' ⟨rfl, hw2⟩; rw [hw2]; clear hw2 w')
  have HE : Hid (Bk .u8 V B 72 X ∧ Bk .u8 V D 72 (fun _ => 0) ∧ Below B w V) := by rw [← hX]; exact HI
  clear HI HG
  have hr := HE.out.1.range
  have ht := HE.out.2.1.there .u8 X
  have hi9 : (Try.prog.info? 40).map (·.size) = some (ints .u8 72 X).length := by rw [ints_len]; exact infoR
  have hone := ints_one .u8 72 X
  have HBl := HE.out.2.2
  obtain ⟨L, hL⟩ : ∃ L, ints .u8 72 X = L := ⟨_, rfl⟩
  rw [hL] at hr ht hi9 hone
  have HL : Hid (ints .u8 72 X = L) := hL
  have HB9 : Hid (Below B w V) := HBl
  clear hL HBl HE
  go_wp2_with (first | refine wpList_load_mid rfl 40 _ rfl _ 0 rfl L _ hr Try.underlying40 rfl hi9 ?_ | refine wpList_store_mid rfl 40 _ _ rfl _ 0 L.toArray rfl rfl ht hi9 hone ?_)
  have hs : (V.setCells D 0 L).rangeAt D 0 L := World.rangeAt_setCells_same V _ 0 L (by simpa using ht)
  have hld := run_loadVar_mid (P := Try.prog) (V.setCells D 0 L) D 0 40 L _ hs Try.underlying40 rfl hi9
  refine bodyPost_ret (v := .agg L.toArray) ?_ rfl ⟨by rw [HF.out, hX, HL.out], by rw [hB]; exact belows_put lD L 0 HB9.out⟩
  simp [results, Try.f61, Act.put, asAddr, hld]
set_option maxRecDepth 100000 in
set_option maxHeartbeats 1000000 in
theorem forceR_turn (F : Nat → Int) (b value : Int) (g : Int) (hget : ∀ (B : Nat) (W : World), Bk .u8 W B 72 F → Calls Try.prog 77 #[.slice (some ⟨B, 0, none⟩) 72 72, .int .i64 b] W fun e w' => e = .returned (.int .i64 g) ∧ w' = W) (z : Int) (hv : bits .and .i64 value 1 = z) (hne : g ≠ z)
    (Y : Nat → Int) (hflip : ∀ W : World, Calls Try.prog 33 #[.agg (ints .u8 72 F).toArray, .int .i64 b] W fun e w' => e = .returned (.agg (ints .u8 72 Y).toArray) ∧ Below W.heap.size W w') (w : World) :
    Calls Try.prog 61 #[.agg (ints .u8 72 F).toArray, .int .i64 b, .int .i64 value] w fun e w' => e = .returned (.agg (ints .u8 72 Y).toArray) ∧ Below w.heap.size w w' := by
  have hne2 : (g == z) = false := by simpa using hne
  have hz := zeroR
  obtain ⟨A0, hA0⟩ : ∃ A, (ints .u8 72 F).toArray = A := ⟨_, rfl⟩
  obtain ⟨Z, hZ⟩ : ∃ A, (ints .u8 72 fun _ => 0).toArray = A := ⟨_, rfl⟩
  obtain ⟨X, hX⟩ : ∃ X, F = X := ⟨_, rfl⟩
  rw [hA0]
  rw [hZ] at hz
  have HG : Hid (∀ (B : Nat) (W : World), Bk .u8 W B 72 F → Calls Try.prog 77 #[.slice (some ⟨B, 0, none⟩) 72 72, .int .i64 b] W fun e w' => e = .returned (.int .i64 g) ∧ w' = W) := hget
  clear hget
  go_enter Try.func61, Try.ntmps61
  go_upto_region 1 with (fail)
  obtain ⟨V, hV⟩ : ∃ V, (w.alloc (.cells A0 40)).alloc (.cells Z 40) = V := ⟨_, rfl⟩
  have HI : Hid (Bk .u8 V w.heap.size 72 F ∧ Bk .u8 V (w.heap.size + 1) 72 (fun _ => 0) ∧ Below w.heap.size w V) := by
    rw [← hV, ← hA0, ← hZ]
    have h1 := Bk.new .u8 (w.alloc (.cells (ints .u8 72 F).toArray 40)) 72 (fun _ => 0) 40
    simp only [World.size_alloc] at h1
    exact ⟨(Bk.new .u8 w 72 F _).alloc _, h1, ((Below.refl _ w).alloc (Nat.le_refl _) _).alloc (by simp) _⟩
  obtain ⟨B, hB⟩ : ∃ B, w.heap.size = B := ⟨_, rfl⟩
  obtain ⟨D, hD⟩ : ∃ D, B + 1 = D := ⟨_, rfl⟩
  rw [hV]
  rw [hB, hD] at HI ⊢
  have lD : B ≤ D := by omega
  have HF : Hid (A0 = (ints .u8 72 F).toArray) := hA0.symm
  clear hV hZ hA0 hz
  have hct := cut0R B
  go_upto_region 3 with (go_at_call 77; refine (HG.out B _ HI.out.1).mono ?_; rintro e w' ⟨rfl, hw2⟩; rw [hw2]; clear hw2 w')
  obtain ⟨L0, hL0⟩ : ∃ L, ints .u8 72 F = L := ⟨_, rfl⟩
  obtain ⟨L, hL⟩ : ∃ L, ints .u8 72 Y = L := ⟨_, rfl⟩
  have hr := HI.out.1.range
  have hi0 : (Try.prog.info? 40).map (·.size) = some L0.length := by rw [← hL0, ints_len]; exact infoR
  have hi9 : (Try.prog.info? 40).map (·.size) = some L.length := by rw [← hL, ints_len]; exact infoR
  have hone : L.toArray.all (·.oneCell') = true := by rw [← hL]; exact ints_one .u8 72 _
  have HFl : Hid (∀ W : World, Calls Try.prog 33 #[.agg L0.toArray, .int .i64 b] W fun e w' => e = .returned (.agg L.toArray) ∧ Below W.heap.size W w') := by rw [← hL0, ← hL]; exact hflip
  rw [hL0] at hr
  have HL : Hid (ints .u8 72 Y = L) := hL
  have HT : Hid (∀ W, Below V.heap.size V W → W.there D 0 L.toArray.size ∧ Below B w W) := fun W hb => by
    rw [← hL]
    exact ⟨(HI.out.2.1.next hb).there .u8 Y, HI.out.2.2.trans (hb.mono (Nat.le_of_lt HI.out.1.lt))⟩
  clear hL0 hL hflip HI HG
  go_wp2_with (first | refine wpList_load_mid rfl 40 _ rfl B 0 rfl L0 _ hr Try.underlying40 rfl hi0 ?_ | (go_at_call 33; refine (HFl.out _).mono ?_; rintro e W4 ⟨rfl, b4⟩; have ht := (HT.out W4 b4).1; have HB9 : Hid (Below B w W4) := (HT.out W4 b4).2; clear b4) | refine wpList_store_mid rfl 40 _ _ rfl _ 0 L.toArray rfl rfl ht hi9 hone ?_)
  have hs : (W4.setCells D 0 L).rangeAt D 0 L := World.rangeAt_setCells_same W4 _ 0 L (by simpa using ht)
  have hld := run_loadVar_mid (P := Try.prog) (W4.setCells D 0 L) D 0 40 L _ hs Try.underlying40 rfl hi9
  refine bodyPost_ret (v := .agg L.toArray) ?_ rfl ⟨by rw [HL.out], by rw [hB]; exact belows_put lD L 0 HB9.out⟩
  simp [results, Try.f61, Act.put, asAddr, hld]
theorem forceR_yes (F : Nat → Int) (hF : Byts 72 F) (i : Nat) (hi : i < 576) (value : Int) (v : Nat) (hv : bits .and .i64 value 1 = (v : Int)) (hv1 : v ≤ 1) (w : World) :
    Calls Try.prog 61 #[.agg (ints .u8 72 F).toArray, .int .i64 (i : Int), .int .i64 value] w fun e w' => e = .returned (.agg (ints .u8 72 (frR F i v)).toArray) ∧ Below w.heap.size w w' := by
  have hg := gb_le (pc F 0 72) i
  by_cases e : gb (pc F 0 72) i = v
  · rw [← ints_congr .u8 72 F (frR F i v) (fun j hj => by rw [← e]; exact frR_stay F hF i hi j hj)]
    exact forceR_same F i value (gb (pc F 0 72) i : Int) (fun B W h => getR_yes F hF i hi B W h) (by rw [hv, e]) w
  · rw [← ints_congr .u8 72 (flR F i) (frR F i v) (fun j hj => by rw [frR_flip F hF i hi j hj, show 1 - gb (pc F 0 72) i = v by omega])]
    exact forceR_turn F i value (gb (pc F 0 72) i : Int) (fun B W h => getR_yes F hF i hi B W h) v hv (by omega) (flR F i) (fun W => flipR_yes F hF i hi W) w
theorem forceR_no (F : Nat → Int) (hF : Byts 72 F) (b : Int) (hb : b < 0 ∨ 576 ≤ b) (hb2 : b ≤ 9223372036854775807) (value : Int) (w : World) :
    Calls Try.prog 61 #[.agg (ints .u8 72 F).toArray, .int .i64 b, .int .i64 value] w fun e w' => e = .returned (.agg (ints .u8 72 F).toArray) ∧ Below w.heap.size w w' := by
  have hv := i64_and1r value
  by_cases e : value % 2 = 0
  · exact forceR_same F b value 0 (fun B W h => get_no _ 72 72 b (by omega) hb2 (by omega) W) (by rw [hv, e]) w
  · exact forceR_turn F b value 0 (fun B W h => get_no _ 72 72 b (by omega) hb2 (by omega) W) (value % 2) hv (fun h => e h.symm) F (fun W => flipR_no F hF b hb hb2 W) w
end Go.Proofs.Ytcpjmfemgdgplaa
