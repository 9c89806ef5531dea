/-
  The walks of package geom: which geometries are right, which places they have; the document's.
-/
import Derived.Test.YtcpjmfemgdgplaaGeW1
import Derived.Test.YtcpjmfemgdgplaaRound2
import Derived.Test.YtcpjmfemgdgplaaCalm
namespace Go.Proofs.Ytcpjmfemgdgplaa
open Go.RowKit
open Bm (wt wtK)
open Ge (pw rt hd ix)

theorem low_prod (x y : Int) (a b : Int) (hx : 0 ≤ x) (hxa : x ≤ a) (hy : 0 ≤ y) (hyb : y ≤ b) : 0 ≤ x * y ∧ x * y ≤ a * b :=
  ⟨Int.mul_nonneg hx hy, Int.mul_le_mul hxa hyb hy (by omega)⟩
def PwC (n m : Int) (z : Bool) : Prop := ∀ w : World, Calls Try.prog 64 #[.int .i64 n, .int .i64 m] w fun e w' => e = .returned (.bool z) ∧ w' = w
theorem pwC (n m : Int) (z : Bool) (h : pw n m = z) (hm0 : 0 ≤ m) (hm : m ≤ 1024) : PwC n m z := fun w => by rw [← h]; exact isPower_any n m hm0 hm w

set_option maxRecDepth 100000 in
set_option maxHeartbeats 2000000 in
theorem right_any (r s b o c : Int) (w : World) :
    Calls Try.prog 34 #[.agg #[.int .i64 r, .int .i64 s, .int .i64 b, .int .i64 o, .int .i64 c]] w fun e w' => e = .returned (.bool (rt r s b o c)) ∧ Below w.heap.size w w' := by
  obtain ⟨z1, Z1⟩ : ∃ z, Hid (pw r 8 = z) := ⟨_, rfl⟩
  obtain ⟨z2, Z2⟩ : ∃ z, Hid (pw b 16 = z) := ⟨_, rfl⟩
  obtain ⟨z3, Z3⟩ : ∃ z, Hid (pw o 1024 = z) := ⟨_, rfl⟩
  obtain ⟨z4, Z4⟩ : ∃ z, Hid (pw c 64 = z) := ⟨_, rfl⟩
  obtain ⟨z, Z⟩ : ∃ z, Hid (rt r s b o c = z) := ⟨_, rfl⟩
  have HC1 : Hid (PwC r 8 z1) := pwC _ _ _ Z1.out (by omega) (by omega)
  have HC2 : Hid (PwC b 16 z2) := pwC _ _ _ Z2.out (by omega) (by omega)
  have HC3 : Hid (PwC o 1024 z3) := pwC _ _ _ Z3.out (by omega) (by omega)
  have HC4 : Hid (PwC c 64 z4) := pwC _ _ _ Z4.out (by omega) (by omega)
  rw [Z.out]
  unfold PwC at HC1 HC2 HC3 HC4
  go_enter Try.func34, Try.ntmps34
  go_wp2
  obtain ⟨B, hB⟩ : ∃ B, w.heap.size = B := ⟨_, rfl⟩
  obtain ⟨V, hV⟩ : ∃ V, w.alloc (.cells #[.int .i64 r, .int .i64 s, .int .i64 b, .int .i64 o, .int .i64 c] 23) = V := ⟨_, rfl⟩
  have k0 : V.cell? ⟨B, 0, none⟩ = some (.int .i64 r) := by rw [← hV, ← hB]; simp [go_sem]
  have k1 : V.cell? ⟨B, 1, none⟩ = some (.int .i64 s) := by rw [← hV, ← hB]; simp [go_sem]
  have k2 : V.cell? ⟨B, 2, none⟩ = some (.int .i64 b) := by rw [← hV, ← hB]; simp [go_sem]
  have k3 : V.cell? ⟨B, 3, none⟩ = some (.int .i64 o) := by rw [← hV, ← hB]; simp [go_sem]
  have k4 : V.cell? ⟨B, 4, none⟩ = some (.int .i64 c) := by rw [← hV, ← hB]; simp [go_sem]
  have HB : Hid (Below B w V) := by rw [← hV, ← hB]; exact (Below.refl _ w).alloc (Nat.le_refl _) _
  have hlt : B < V.heap.size := by rw [← hV, ← hB]; simp
  rw [hV, hB]
  clear hV
  refine region_calm (by kernel_rfl) (by kernel_rfl) (fun W => Below V.heap.size V W) (below_drew1 V) ?_
  intro U hU f hf hof
  have f0 : ∀ u, (f u).cell? ⟨B, 0, none⟩ = some (.int .i64 r) := fun u => ((hf u).cell (p := ⟨B, 0, none⟩) hlt).trans k0
  have f1 : ∀ u, (f u).cell? ⟨B, 1, none⟩ = some (.int .i64 s) := fun u => ((hf u).cell (p := ⟨B, 1, none⟩) hlt).trans k1
  have f2 : ∀ u, (f u).cell? ⟨B, 2, none⟩ = some (.int .i64 b) := fun u => ((hf u).cell (p := ⟨B, 2, none⟩) hlt).trans k2
  have f3 : ∀ u, (f u).cell? ⟨B, 3, none⟩ = some (.int .i64 o) := fun u => ((hf u).cell (p := ⟨B, 3, none⟩) hlt).trans k3
  have f4 : ∀ u, (f u).cell? ⟨B, 4, none⟩ = some (.int .i64 c) := fun u => ((hf u).cell (p := ⟨B, 4, none⟩) hlt).trans k4
  have HN : Hid (∀ u W, Below (f u).heap.size (f u) W → ∃ x, W = f x) := fun u W h => hof W ((hf u).trans (h.mono (hf u).size))
  have HE : Hid (∀ u, Below B w (f u)) := fun u => HB.out.trans ((hf u).mono (Nat.le_of_lt hlt))
  clear k0 k1 k2 k3 k4 hf hof hlt HB
  iterate 4 go_big_quiet_step ((go_at_call 64; exact calm_same (HC1.out _)))
  cases z1 with
  | false =>
    obtain rfl : z = false := by rw [← Z.out]; unfold rt; rw [Z1.out]; rfl
    repeat (go_big_quiet_step (fail))
    refine wpQuiet_nil ?_
    rintro _ ⟨u, rfl⟩
    go_wp2
    go_ret
    exact ⟨rfl, by first | exact HE.out u | (rw [hB]; exact HE.out u)⟩
  | true =>
    obtain ⟨q1a, q1b⟩ := Ge.pw_pos Z1.out
    rcases Int.lt_or_le s 0 with hs0 | hs0
    · obtain rfl : z = false := by rw [← Z.out]; unfold rt; rw [decide_eq_false (show ¬ 0 ≤ s by omega)]; simp
      have dn : decide (0 ≤ s) = false := decide_eq_false (by omega)
      repeat (go_big_quiet_step (fail))
      refine wpQuiet_nil ?_
      rintro _ ⟨u, rfl⟩
      go_wp2
      go_ret
      exact ⟨rfl, by first | exact HE.out u | (rw [hB]; exact HE.out u)⟩
    rcases Int.lt_or_le (8 - r) s with hs1 | hs1
    · obtain rfl : z = false := by rw [← Z.out]; unfold rt; rw [decide_eq_false (show ¬ s ≤ 8 - r by omega)]; simp
      have dn : decide (s ≤ 8 - r) = false := decide_eq_false (by omega)
      repeat (go_big_quiet_step (fail))
      refine wpQuiet_nil ?_
      rintro _ ⟨u, rfl⟩
      go_wp2
      go_ret
      exact ⟨rfl, by first | exact HE.out u | (rw [hB]; exact HE.out u)⟩
    have y0 : 0 ≤ r + s := by omega
    have y1 : r + s ≤ 8 := by omega
    iterate 16 go_big_quiet_step ((go_at_call 64; exact calm_same (HC2.out _)))
    cases z2 with
    | false =>
      obtain rfl : z = false := by rw [← Z.out]; unfold rt; rw [Z2.out]; simp
      repeat (go_big_quiet_step (fail))
      refine wpQuiet_nil ?_
      rintro _ ⟨u, rfl⟩
      go_wp2
      go_ret
      exact ⟨rfl, by first | exact HE.out u | (rw [hB]; exact HE.out u)⟩
    | true =>
      iterate 5 go_big_quiet_step ((go_at_call 64; exact calm_same (HC3.out _)))
      cases z3 with
      | false =>
        obtain rfl : z = false := by rw [← Z.out]; unfold rt; rw [Z3.out]; simp
        repeat (go_big_quiet_step (fail))
        refine wpQuiet_nil ?_
        rintro _ ⟨u, rfl⟩
        go_wp2
        go_ret
        exact ⟨rfl, by first | exact HE.out u | (rw [hB]; exact HE.out u)⟩
      | true =>
        iterate 5 go_big_quiet_step ((go_at_call 64; exact calm_same (HC4.out _)))
        cases z4 with
        | false =>
          obtain rfl : z = false := by rw [← Z.out]; unfold rt; rw [Z4.out]; simp
          repeat (go_big_quiet_step (fail))
          refine wpQuiet_nil ?_
          rintro _ ⟨u, rfl⟩
          go_wp2
          go_ret
          exact ⟨rfl, by first | exact HE.out u | (rw [hB]; exact HE.out u)⟩
        | true =>
          obtain ⟨q2a, q2b⟩ := Ge.pw_pos Z2.out
          obtain ⟨q3a, q3b⟩ := Ge.pw_pos Z3.out
          obtain ⟨q4a, q4b⟩ := Ge.pw_pos Z4.out
          obtain ⟨m1a, m1b⟩ := low_prod (r + s) b 8 16 y0 y1 (by omega) q2b
          obtain ⟨m2a, m2b⟩ := low_prod ((r + s) * b) o 128 1024 m1a (by omega) (by omega) q3b
          obtain ⟨m3a, m3b⟩ := low_prod ((r + s) * b * o) c 131072 64 m2a (by omega) (by omega) q4b
          have m1c : (r + s) * b ≤ 128 := by omega
          have m2c : (r + s) * b * o ≤ 131072 := by omega
          have m3c : (r + s) * b * o * c ≤ 8388608 := by omega
          have HA : Hid (∀ w : World, Calls Try.prog 65 #[.agg #[.int .i64 r, .int .i64 s, .int .i64 b, .int .i64 o, .int .i64 c]] w fun e w' => e = .returned (.int .i64 (r + s)) ∧ Below w.heap.size w w') := fun w => allRanks_any r s b o c y0 (by omega) w
          clear m1b m2b m3b
          by_cases hp : (r + s) * b * o * c ≤ 4096
          · obtain rfl : z = true := by rw [← Z.out]; unfold rt; rw [Z1.out, Z2.out, Z3.out, Z4.out, decide_eq_true hs0, decide_eq_true hs1, decide_eq_true hp]; rfl
            repeat (go_big_quiet_step ((go_at_call 65; exact calm_next HN.out (HA.out _))))
            refine wpQuiet_nil ?_
            rintro _ ⟨u, rfl⟩
            go_wp2
            go_ret
            exact ⟨rfl, by first | exact HE.out u | (rw [hB]; exact HE.out u)⟩
          · obtain rfl : z = false := by rw [← Z.out]; unfold rt; rw [decide_eq_false hp]; simp
            have dn : decide ((r + s) * b * o * c ≤ 4096) = false := decide_eq_false hp
            repeat (go_big_quiet_step ((go_at_call 65; exact calm_next HN.out (HA.out _))))
            refine wpQuiet_nil ?_
            rintro _ ⟨u, rfl⟩
            go_wp2
            go_ret
            exact ⟨rfl, by first | exact HE.out u | (rw [hB]; exact HE.out u)⟩
end Go.Proofs.Ytcpjmfemgdgplaa
