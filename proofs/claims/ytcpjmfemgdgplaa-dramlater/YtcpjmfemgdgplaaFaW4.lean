/-
  The walks of package fault: Right.
-/
import Derived.Test.YtcpjmfemgdgplaaFaW3
namespace Go.Proofs.Ytcpjmfemgdgplaa
open Go.RowKit Go.Shelf
open Ge (pw rt hd ix)
attribute [local go_sem] Oper.semAt_some

theorem infoGm : (Try.prog.info? 23).map (·.size) = some 5 := by kernel_rfl
/-- what Right was given -/
structure Rg (B C : Nat) (k p q u v c i x : Int) (r s b o d : Int) (w W : World) : Prop where
  f : Ft W B k p q u v c i x
  g : Gm W C r s b o d
  n : Below B w W
  l : B ≤ W.heap.size
theorem Rg.next {B C : Nat} {k p q u v c i x : Int} {r s b o d : Int} {w W W' : World} (h : Rg B C k p q u v c i x r s b o d w W) (e : Below W.heap.size W W') : Rg B C k p q u v c i x r s b o d w W' :=
  ⟨h.f.next e, h.g.next e, h.n.trans (e.mono h.l), Nat.le_trans h.l e.size⟩
set_option maxRecDepth 100000 in
set_option maxHeartbeats 4000000 in
theorem fRight_core (k p q u v c i x : Int) (r s b o d m n j : Int) (hm : Md m n j) (k2 p2 q2 u2 v2 c2 i2 x2 : Int)
    (HO : Hid (∀ w : World, Calls Try.prog 59 #[.agg #[.int .i64 k, .int .i64 p, .int .i64 q, .int .i64 u, .int .i64 v, .int .i64 c, .int .i64 i, .int .i64 x]] w fun e w' => e = .returned (.agg #[.int .i64 k2, .int .i64 p2, .int .i64 q2, .int .i64 u2, .int .i64 v2, .int .i64 c2, .int .i64 i2, .int .i64 x2]) ∧ Below w.heap.size w w')) (w : World) :
    Calls Try.prog 31 #[.agg #[.int .i64 k, .int .i64 p, .int .i64 q, .int .i64 u, .int .i64 v, .int .i64 c, .int .i64 i, .int .i64 x], .agg #[.int .i64 r, .int .i64 s, .int .i64 b, .int .i64 o, .int .i64 d], .int .i64 m] w fun e w' => e = .returned (.bool (decide (1 ≤ k ∧ k ≤ 7) && (decide (k = k2 ∧ p = p2 ∧ q = q2 ∧ u = u2 ∧ v = v2 ∧ c = c2 ∧ i = i2 ∧ x = x2) && (hd r s b o d p q u v && (decide (0 ≤ c ∧ c < n) && (decide (0 ≤ i ∧ i < 576) && decide (0 ≤ x ∧ x < if k = 2 then 2 else 256))))))) ∧ Below w.heap.size w w' := by
  obtain ⟨z0, Z0⟩ : ∃ z, decide (1 ≤ k ∧ k ≤ 7) = z := ⟨_, rfl⟩
  obtain ⟨z1, Z1⟩ : ∃ z, decide (k = k2 ∧ p = p2 ∧ q = q2 ∧ u = u2 ∧ v = v2 ∧ c = c2 ∧ i = i2 ∧ x = x2) = z := ⟨_, rfl⟩
  obtain ⟨z2, Z2⟩ : ∃ z, hd r s b o d p q u v = z := ⟨_, rfl⟩
  obtain ⟨z3, Z3⟩ : ∃ z, decide (0 ≤ c ∧ c < n) = z := ⟨_, rfl⟩
  obtain ⟨z4, Z4⟩ : ∃ z, decide (0 ≤ i ∧ i < 576) = z := ⟨_, rfl⟩
  obtain ⟨y, Y⟩ : ∃ y : Int, (if k = 2 then 2 else 256) = y := ⟨_, rfl⟩
  obtain ⟨z5, Z5⟩ : ∃ z, decide (0 ≤ x ∧ x < y) = z := ⟨_, rfl⟩
  have C0 : Hid (∀ w : World, Calls Try.prog 58 #[.int .i64 k] w fun e w' => e = .returned (.bool z0) ∧ w' = w) := fun w => by rw [← Z0]; exact isKind_any k w
  have C1 : Hid (∀ w : World, (binOp .eql 38 (.agg #[.int .i64 k, .int .i64 p, .int .i64 q, .int .i64 u, .int .i64 v, .int .i64 c, .int .i64 i, .int .i64 x]) (.agg #[.int .i64 k2, .int .i64 p2, .int .i64 q2, .int .i64 u2, .int .i64 v2, .int .i64 c2, .int .i64 i2, .int .i64 x2])).run Try.prog w = .ok (.bool z1) w) := fun w => by rw [← Z1]; exact eqF_eql k p q u v c i x k2 p2 q2 u2 v2 c2 i2 x2 w
  have C2 : Hid (∀ w : World, Calls Try.prog 48 #[.agg #[.int .i64 r, .int .i64 s, .int .i64 b, .int .i64 o, .int .i64 d], .agg #[.int .i64 p, .int .i64 q, .int .i64 u, .int .i64 v]] w fun e w' => e = .returned (.bool z2) ∧ Below w.heap.size w w') := fun w => by rw [← Z2]; exact holds_any r s b o d p q u v w
  have C3 : Hid (∀ w : World, Calls Try.prog 56 #[.int .i64 c, .int .i64 n] w fun e w' => e = .returned (.bool z3) ∧ w' = w) := fun w => by rw [← Z3]; exact fbelow_any c n w
  have C4 : Hid (∀ w : World, Calls Try.prog 56 #[.int .i64 i, .int .i64 576] w fun e w' => e = .returned (.bool z4) ∧ w' = w) := fun w => by rw [← Z4]; exact fbelow_any i 576 w
  have C5 : Hid (∀ w : World, Calls Try.prog 56 #[.int .i64 x, .int .i64 y] w fun e w' => e = .returned (.bool z5) ∧ w' = w) := fun w => by rw [← Z5]; exact fbelow_any x y w
  have C6 : Hid (∀ w : World, Calls Try.prog 57 #[.int .i64 m] w fun e w' => e = .returned (.int .i64 n) ∧ w' = w) := fun w => countChips_any hm w
  have C7 : Hid (∀ w : World, Calls Try.prog 60 #[.agg #[.int .i64 k, .int .i64 p, .int .i64 q, .int .i64 u, .int .i64 v, .int .i64 c, .int .i64 i, .int .i64 x]] w fun e w' => e = .returned (.int .i64 y) ∧ Below w.heap.size w w') := fun w => by rw [← Y]; exact values_any k p q u v c i x w
  rw [Z0, Z1, Z2, Z3, Z4, Y, Z5]
  clear Z0 Z1 Z2 Z3 Z4 Z5 Y hm
  go_enter Try.func31, Try.ntmps31
  go_upto_region 1 with (fail)
  obtain ⟨B, hB⟩ : ∃ B, w.heap.size = B := ⟨_, rfl⟩
  obtain ⟨C, hC⟩ : ∃ C, B + 1 = C := ⟨_, rfl⟩
  obtain ⟨V, hV⟩ : ∃ V, (w.alloc (.cells #[.int .i64 k, .int .i64 p, .int .i64 q, .int .i64 u, .int .i64 v, .int .i64 c, .int .i64 i, .int .i64 x] 38)).alloc (.cells #[.int .i64 r, .int .i64 s, .int .i64 b, .int .i64 o, .int .i64 d] 23) = V := ⟨_, rfl⟩
  have HI : Hid (Rg B C k p q u v c i x r s b o d w V) := by
    rw [← hV, ← hC, ← hB]
    have h1 := Gm.new (w.alloc (.cells #[.int .i64 k, .int .i64 p, .int .i64 q, .int .i64 u, .int .i64 v, .int .i64 c, .int .i64 i, .int .i64 x] 38)) r s b o d 23
    simp only [World.size_alloc] at h1
    exact ⟨(Ft.new w k p q u v c i x _).alloc _, h1, ((Below.refl _ w).alloc (Nat.le_refl _) _).alloc (by simp) _, by simp only [World.size_alloc]; omega⟩
  rw [hV, hB, hC]
  clear hV hC
  refine region_calm (by kernel_rfl) (by kernel_rfl) (fun W => Below V.heap.size V W) (below_drew1 V) ?_
  intro U hU f hf hof
  have HN : Hid (∀ u W, Below (f u).heap.size (f u) W → ∃ x, W = f x) := fun u W h => hof W ((hf u).trans (h.mono (hf u).size))
  have HE : Hid (∀ y, Rg B C k p q u v c i x r s b o d w (f y)) := fun y => HI.out.next (hf y)
  have f0 : ∀ y, (f y).cell? ⟨B, 0, none⟩ = some (.int .i64 k) := fun y => (HE.out y).f.c0
  have f5 : ∀ y, (f y).cell? ⟨B, 5, none⟩ = some (.int .i64 c) := fun y => (HE.out y).f.c5
  have f6 : ∀ y, (f y).cell? ⟨B, 6, none⟩ = some (.int .i64 i) := fun y => (HE.out y).f.c6
  have f7 : ∀ y, (f y).cell? ⟨B, 7, none⟩ = some (.int .i64 x) := fun y => (HE.out y).f.c7
  have gd := eqF_gd
  clear hf hof HI
  go_big_quiet_step (fail)
  go_big_quiet_step (fail)
  go_big_quiet_step ((go_at_call 58; exact calm_same (C0.out _)))
  go_big_quiet_step (fail)
  cases z0 with
  | false =>
    go_big_quiet_step (fail)
    go_big_quiet_step (fail)
    go_big_quiet_step (fail)
    go_big_quiet_step (fail)
    go_big_quiet_step (fail)
    go_big_quiet_step (fail)
    go_big_quiet_step (fail)
    go_big_quiet_step (fail)
    go_big_quiet_step (fail)
    go_big_quiet_step (fail)
    go_big_quiet_step (fail)
    go_big_quiet_step (fail)
    go_big_quiet_step (fail)
    go_big_quiet_step (fail)
    go_big_quiet_step (fail)
    go_big_quiet_step (fail)
    go_big_quiet_step (fail)
    go_big_quiet_step (fail)
    go_big_quiet_step (fail)
    go_big_quiet_step (fail)
    go_big_quiet_step (fail)
    go_big_quiet_step (fail)
    go_big_quiet_step (fail)
    go_big_quiet_step (fail)
    go_big_quiet_step (fail)
    go_big_quiet_step (fail)
    go_big_quiet_step (fail)
    go_big_quiet_step (fail)
    go_big_quiet_step (fail)
    go_big_quiet_step (fail)
    go_big_quiet_step (fail)
    refine wpQuiet_nil ?_
    rintro _ ⟨y, rfl⟩
    go_wp2
    go_ret
    exact ⟨rfl, by first | exact (HE.out y).n | (rw [hB]; exact (HE.out y).n)⟩
  | true =>
    refine quiet_load rfl 38 _ rfl B 0 rfl [.int .i64 k, .int .i64 p, .int .i64 q, .int .i64 u, .int .i64 v, .int .i64 c, .int .i64 i, .int .i64 x] _ (by rintro _ ⟨y, rfl⟩; exact (HE.out y).f.range) Try.underlying38 rfl infoF ?_
    simp only [Act.put, List.setIfInBounds_toArray, List.set_cons_zero, List.set_cons_succ]
    refine quiet_load rfl 38 _ rfl B 0 rfl [.int .i64 k, .int .i64 p, .int .i64 q, .int .i64 u, .int .i64 v, .int .i64 c, .int .i64 i, .int .i64 x] _ (by rintro _ ⟨y, rfl⟩; exact (HE.out y).f.range) Try.underlying38 rfl infoF ?_
    simp only [Act.put, List.setIfInBounds_toArray, List.set_cons_zero, List.set_cons_succ]
    go_big_quiet_step ((go_at_call 59; exact calm_next HN.out (HO.out _)))
    refine quiet_one rfl _ (exec_eqlA 38 _ _ _ rfl _ _ _ rfl rfl gd (fun w => C1.out w)) ?_
    simp only [Act.put, List.setIfInBounds_toArray, List.set_cons_zero, List.set_cons_succ]
    go_big_quiet_step (fail)
    go_big_quiet_step (fail)
    cases z1 with
    | false =>
      go_big_quiet_step (fail)
      go_big_quiet_step (fail)
      go_big_quiet_step (fail)
      go_big_quiet_step (fail)
      go_big_quiet_step (fail)
      go_big_quiet_step (fail)
      go_big_quiet_step (fail)
      go_big_quiet_step (fail)
      go_big_quiet_step (fail)
      go_big_quiet_step (fail)
      go_big_quiet_step (fail)
      go_big_quiet_step (fail)
      go_big_quiet_step (fail)
      go_big_quiet_step (fail)
      go_big_quiet_step (fail)
      go_big_quiet_step (fail)
      go_big_quiet_step (fail)
      go_big_quiet_step (fail)
      go_big_quiet_step (fail)
      go_big_quiet_step (fail)
      go_big_quiet_step (fail)
      go_big_quiet_step (fail)
      go_big_quiet_step (fail)
      go_big_quiet_step (fail)
      go_big_quiet_step (fail)
      refine wpQuiet_nil ?_
      rintro _ ⟨y, rfl⟩
      go_wp2
      go_ret
      exact ⟨rfl, by first | exact (HE.out y).n | (rw [hB]; exact (HE.out y).n)⟩
    | true =>
      refine quiet_load rfl 23 _ rfl C 0 rfl [.int .i64 r, .int .i64 s, .int .i64 b, .int .i64 o, .int .i64 d] _ (by rintro _ ⟨y, rfl⟩; exact Bk.range (HE.out y).g) Try.underlying23 rfl infoGm ?_
      simp only [Act.put, List.setIfInBounds_toArray, List.set_cons_zero, List.set_cons_succ]
      go_big_quiet_step (fail)
      refine quiet_load rfl 36 _ rfl B 1 rfl [.int .i64 p, .int .i64 q, .int .i64 u, .int .i64 v] _ (by rintro _ ⟨y, rfl⟩; exact (HE.out y).f.place) Try.underlying36 rfl infoP ?_
      simp only [Act.put, List.setIfInBounds_toArray, List.set_cons_zero, List.set_cons_succ]
      go_big_quiet_step ((go_at_call 48; exact calm_next HN.out (C2.out _)))
      go_big_quiet_step (fail)
      go_big_quiet_step (fail)
      cases z2 with
      | false =>
        go_big_quiet_step (fail)
        go_big_quiet_step (fail)
        go_big_quiet_step (fail)
        go_big_quiet_step (fail)
        go_big_quiet_step (fail)
        go_big_quiet_step (fail)
        go_big_quiet_step (fail)
        go_big_quiet_step (fail)
        go_big_quiet_step (fail)
        go_big_quiet_step (fail)
        go_big_quiet_step (fail)
        go_big_quiet_step (fail)
        go_big_quiet_step (fail)
        go_big_quiet_step (fail)
        go_big_quiet_step (fail)
        go_big_quiet_step (fail)
        go_big_quiet_step (fail)
        go_big_quiet_step (fail)
        go_big_quiet_step (fail)
        refine wpQuiet_nil ?_
        rintro _ ⟨y, rfl⟩
        go_wp2
        go_ret
        exact ⟨rfl, by first | exact (HE.out y).n | (rw [hB]; exact (HE.out y).n)⟩
      | true =>
        go_big_quiet_step (fail)
        go_big_quiet_step (fail)
        go_big_quiet_step (fail)
        go_big_quiet_step ((go_at_call 57; exact calm_same (C6.out _)))
        go_big_quiet_step ((go_at_call 56; exact calm_same (C3.out _)))
        go_big_quiet_step (fail)
        go_big_quiet_step (fail)
        cases z3 with
        | false =>
          go_big_quiet_step (fail)
          go_big_quiet_step (fail)
          go_big_quiet_step (fail)
          go_big_quiet_step (fail)
          go_big_quiet_step (fail)
          go_big_quiet_step (fail)
          go_big_quiet_step (fail)
          go_big_quiet_step (fail)
          go_big_quiet_step (fail)
          go_big_quiet_step (fail)
          go_big_quiet_step (fail)
          go_big_quiet_step (fail)
          refine wpQuiet_nil ?_
          rintro _ ⟨y, rfl⟩
          go_wp2
          go_ret
          exact ⟨rfl, by first | exact (HE.out y).n | (rw [hB]; exact (HE.out y).n)⟩
        | true =>
          go_big_quiet_step (fail)
          go_big_quiet_step (fail)
          go_big_quiet_step ((go_at_call 56; exact calm_same (C4.out _)))
          go_big_quiet_step (fail)
          go_big_quiet_step (fail)
          cases z4 with
          | false =>
            go_big_quiet_step (fail)
            go_big_quiet_step (fail)
            go_big_quiet_step (fail)
            go_big_quiet_step (fail)
            go_big_quiet_step (fail)
            go_big_quiet_step (fail)
            go_big_quiet_step (fail)
            refine wpQuiet_nil ?_
            rintro _ ⟨y, rfl⟩
            go_wp2
            go_ret
            exact ⟨rfl, by first | exact (HE.out y).n | (rw [hB]; exact (HE.out y).n)⟩
          | true =>
            go_big_quiet_step (fail)
            go_big_quiet_step (fail)
            refine quiet_load rfl 38 _ rfl B 0 rfl [.int .i64 k, .int .i64 p, .int .i64 q, .int .i64 u, .int .i64 v, .int .i64 c, .int .i64 i, .int .i64 x] _ (by rintro _ ⟨y, rfl⟩; exact (HE.out y).f.range) Try.underlying38 rfl infoF ?_
            simp only [Act.put, List.setIfInBounds_toArray, List.set_cons_zero, List.set_cons_succ]
            go_big_quiet_step ((go_at_call 60; exact calm_next HN.out (C7.out _)))
            go_big_quiet_step ((go_at_call 56; exact calm_same (C5.out _)))
            go_big_quiet_step (fail)
            go_big_quiet_step (fail)
            refine wpQuiet_nil ?_
            rintro _ ⟨y, rfl⟩
            go_wp2
            go_ret
            exact ⟨rfl, by first | exact (HE.out y).n | (rw [hB]; exact (HE.out y).n)⟩
end Go.Proofs.Ytcpjmfemgdgplaa
