/-
  The walks of package geom: the document's Right; which places a geometry has.
-/
import Derived.Test.YtcpjmfemgdgplaaGeW2
namespace Go.Proofs.Ytcpjmfemgdgplaa
open Go.RowKit
open Ge (pw rt hd ix)

def RwC (n m : Int) (z : Bool) : Prop := ∀ w : World, Calls Try.prog 36 #[.int .i64 n, .int .i64 m] w fun e w' => e = .returned (.bool z) ∧ w' = w
theorem rwC (n m : Int) (z : Bool) (h : pw n m = z) (h0 : -9223372036854775808 ≤ n) (h1 : n < 9223372036854775808) (hm0 : 0 ≤ m) (hm : m ≤ 1024) : RwC n m z := fun w => by rw [← h]; exact refPower_any n m h0 h1 hm0 hm w
/-- a number of int -/
def I64 (x : Int) : Prop := -9223372036854775808 ≤ x ∧ x < 9223372036854775808

set_option maxRecDepth 100000 in
set_option maxHeartbeats 2000000 in
theorem refRight_any (r s b o c : Int) (hr : I64 r) (hb : I64 b) (ho : I64 o) (hc : I64 c) (w : World) :
    Calls Try.prog 10 #[.agg #[.int .i64 r, .int .i64 s, .int .i64 b, .int .i64 o, .int .i64 c]] w fun e w' => e = .returned (.bool (rt r s b o c)) ∧ Below w.heap.size w w' := by
  obtain ⟨z1, Z1⟩ : ∃ z, Hid (pw r 8 = z) := ⟨_, rfl⟩
  obtain ⟨z2, Z2⟩ : ∃ z, Hid (pw b 16 = z) := ⟨_, rfl⟩
  obtain ⟨z3, Z3⟩ : ∃ z, Hid (pw o 1024 = z) := ⟨_, rfl⟩
  obtain ⟨z4, Z4⟩ : ∃ z, Hid (pw c 64 = z) := ⟨_, rfl⟩
  obtain ⟨z, Z⟩ : ∃ z, Hid (rt r s b o c = z) := ⟨_, rfl⟩
  have HC1 : Hid (RwC r 8 z1) := rwC _ _ _ Z1.out hr.1 hr.2 (by omega) (by omega)
  have HC2 : Hid (RwC b 16 z2) := rwC _ _ _ Z2.out hb.1 hb.2 (by omega) (by omega)
  have HC3 : Hid (RwC o 1024 z3) := rwC _ _ _ Z3.out ho.1 ho.2 (by omega) (by omega)
  have HC4 : Hid (RwC c 64 z4) := rwC _ _ _ Z4.out hc.1 hc.2 (by omega) (by omega)
  rw [Z.out]
  unfold RwC at HC1 HC2 HC3 HC4
  clear hr hb ho hc
  cases z1 with
  | false =>
    obtain rfl : z = false := by rw [← Z.out]; unfold rt; rw [Z1.out]; simp
    go_enter Try.func10, Try.ntmps10
    go_wp2_with (first | (go_at_call_of 36 (Value.int .i64 r); refine (HC1.out _).mono ?_; rintro e w' ⟨rfl, rfl⟩) | (go_at_call_of 36 (Value.int .i64 b); refine (HC2.out _).mono ?_; rintro e w' ⟨rfl, rfl⟩) | (go_at_call_of 36 (Value.int .i64 o); refine (HC3.out _).mono ?_; rintro e w' ⟨rfl, rfl⟩) | (go_at_call_of 36 (Value.int .i64 c); refine (HC4.out _).mono ?_; rintro e w' ⟨rfl, rfl⟩))
    go_ret
    exact ⟨rfl, (Below.refl _ w).alloc (Nat.le_refl _) _⟩
  | true =>
    cases z2 with
    | false =>
      obtain rfl : z = false := by rw [← Z.out]; unfold rt; rw [Z2.out]; simp
      go_enter Try.func10, Try.ntmps10
      go_wp2_with (first | (go_at_call_of 36 (Value.int .i64 r); refine (HC1.out _).mono ?_; rintro e w' ⟨rfl, rfl⟩) | (go_at_call_of 36 (Value.int .i64 b); refine (HC2.out _).mono ?_; rintro e w' ⟨rfl, rfl⟩) | (go_at_call_of 36 (Value.int .i64 o); refine (HC3.out _).mono ?_; rintro e w' ⟨rfl, rfl⟩) | (go_at_call_of 36 (Value.int .i64 c); refine (HC4.out _).mono ?_; rintro e w' ⟨rfl, rfl⟩))
      go_ret
      exact ⟨rfl, (Below.refl _ w).alloc (Nat.le_refl _) _⟩
    | true =>
      cases z3 with
      | false =>
        obtain rfl : z = false := by rw [← Z.out]; unfold rt; rw [Z3.out]; simp
        go_enter Try.func10, Try.ntmps10
        go_wp2_with (first | (go_at_call_of 36 (Value.int .i64 r); refine (HC1.out _).mono ?_; rintro e w' ⟨rfl, rfl⟩) | (go_at_call_of 36 (Value.int .i64 b); refine (HC2.out _).mono ?_; rintro e w' ⟨rfl, rfl⟩) | (go_at_call_of 36 (Value.int .i64 o); refine (HC3.out _).mono ?_; rintro e w' ⟨rfl, rfl⟩) | (go_at_call_of 36 (Value.int .i64 c); refine (HC4.out _).mono ?_; rintro e w' ⟨rfl, rfl⟩))
        go_ret
        exact ⟨rfl, (Below.refl _ w).alloc (Nat.le_refl _) _⟩
      | true =>
        cases z4 with
        | false =>
          obtain rfl : z = false := by rw [← Z.out]; unfold rt; rw [Z4.out]; simp
          go_enter Try.func10, Try.ntmps10
          go_wp2_with (first | (go_at_call_of 36 (Value.int .i64 r); refine (HC1.out _).mono ?_; rintro e w' ⟨rfl, rfl⟩) | (go_at_call_of 36 (Value.int .i64 b); refine (HC2.out _).mono ?_; rintro e w' ⟨rfl, rfl⟩) | (go_at_call_of 36 (Value.int .i64 o); refine (HC3.out _).mono ?_; rintro e w' ⟨rfl, rfl⟩) | (go_at_call_of 36 (Value.int .i64 c); refine (HC4.out _).mono ?_; rintro e w' ⟨rfl, rfl⟩))
          go_ret
          exact ⟨rfl, (Below.refl _ w).alloc (Nat.le_refl _) _⟩
        | true =>
          obtain ⟨q1a, q1b⟩ := Ge.pw_pos Z1.out
          obtain ⟨q2a, q2b⟩ := Ge.pw_pos Z2.out
          obtain ⟨q3a, q3b⟩ := Ge.pw_pos Z3.out
          obtain ⟨q4a, q4b⟩ := Ge.pw_pos Z4.out
          rcases Int.lt_or_le s 0 with hs0 | hs0
          · obtain rfl : z = false := by rw [← Z.out]; unfold rt; rw [decide_eq_false (show ¬ 0 ≤ s by omega)]; simp
            have dn : decide (s < 0) = true := decide_eq_true hs0
            go_enter Try.func10, Try.ntmps10
            go_wp2_with (first | (go_at_call_of 36 (Value.int .i64 r); refine (HC1.out _).mono ?_; rintro e w' ⟨rfl, rfl⟩) | (go_at_call_of 36 (Value.int .i64 b); refine (HC2.out _).mono ?_; rintro e w' ⟨rfl, rfl⟩) | (go_at_call_of 36 (Value.int .i64 o); refine (HC3.out _).mono ?_; rintro e w' ⟨rfl, rfl⟩) | (go_at_call_of 36 (Value.int .i64 c); refine (HC4.out _).mono ?_; rintro e w' ⟨rfl, rfl⟩))
            go_ret
            exact ⟨rfl, (Below.refl _ w).alloc (Nat.le_refl _) _⟩
          rcases Int.lt_or_le (8 - r) s with hs1 | hs1
          · obtain rfl : z = false := by rw [← Z.out]; unfold rt; rw [decide_eq_false (show ¬ s ≤ 8 - r by omega)]; simp
            have dn : decide (8 - r < s) = true := decide_eq_true hs1
            go_enter Try.func10, Try.ntmps10
            go_wp2_with (first | (go_at_call_of 36 (Value.int .i64 r); refine (HC1.out _).mono ?_; rintro e w' ⟨rfl, rfl⟩) | (go_at_call_of 36 (Value.int .i64 b); refine (HC2.out _).mono ?_; rintro e w' ⟨rfl, rfl⟩) | (go_at_call_of 36 (Value.int .i64 o); refine (HC3.out _).mono ?_; rintro e w' ⟨rfl, rfl⟩) | (go_at_call_of 36 (Value.int .i64 c); refine (HC4.out _).mono ?_; rintro e w' ⟨rfl, rfl⟩))
            go_ret
            exact ⟨rfl, (Below.refl _ w).alloc (Nat.le_refl _) _⟩
          have y0 : 0 ≤ r + s := by omega
          have y1 : r + s ≤ 8 := by omega
          obtain ⟨m1a, m1b⟩ := low_prod (r + s) b 8 16 y0 y1 (by omega) q2b
          obtain ⟨m2a, m2b⟩ := low_prod ((r + s) * b) o 128 1024 m1a (by omega) (by omega) q3b
          obtain ⟨m3a, m3b⟩ := low_prod ((r + s) * b * o) c 131072 64 m2a (by omega) (by omega) q4b
          have m1c : (r + s) * b ≤ 128 := by omega
          have m2c : (r + s) * b * o ≤ 131072 := by omega
          have m3c : (r + s) * b * o * c ≤ 8388608 := by omega
          clear m1b m2b m3b
          by_cases hp : (r + s) * b * o * c ≤ 4096
          · obtain rfl : z = true := by rw [← Z.out]; unfold rt; rw [Z1.out, Z2.out, Z3.out, Z4.out, decide_eq_true hs0, decide_eq_true hs1, decide_eq_true hp]; rfl
            go_enter Try.func10, Try.ntmps10
            go_wp2_with (first | (go_at_call_of 36 (Value.int .i64 r); refine (HC1.out _).mono ?_; rintro e w' ⟨rfl, rfl⟩) | (go_at_call_of 36 (Value.int .i64 b); refine (HC2.out _).mono ?_; rintro e w' ⟨rfl, rfl⟩) | (go_at_call_of 36 (Value.int .i64 o); refine (HC3.out _).mono ?_; rintro e w' ⟨rfl, rfl⟩) | (go_at_call_of 36 (Value.int .i64 c); refine (HC4.out _).mono ?_; rintro e w' ⟨rfl, rfl⟩))
            go_ret
            exact ⟨rfl, (Below.refl _ w).alloc (Nat.le_refl _) _⟩
          · obtain rfl : z = false := by rw [← Z.out]; unfold rt; rw [decide_eq_false hp]; simp
            have dn : decide ((r + s) * b * o * c ≤ 4096) = false := decide_eq_false hp
            go_enter Try.func10, Try.ntmps10
            go_wp2_with (first | (go_at_call_of 36 (Value.int .i64 r); refine (HC1.out _).mono ?_; rintro e w' ⟨rfl, rfl⟩) | (go_at_call_of 36 (Value.int .i64 b); refine (HC2.out _).mono ?_; rintro e w' ⟨rfl, rfl⟩) | (go_at_call_of 36 (Value.int .i64 o); refine (HC3.out _).mono ?_; rintro e w' ⟨rfl, rfl⟩) | (go_at_call_of 36 (Value.int .i64 c); refine (HC4.out _).mono ?_; rintro e w' ⟨rfl, rfl⟩))
            go_ret
            exact ⟨rfl, (Below.refl _ w).alloc (Nat.le_refl _) _⟩

def BlC (n m : Int) (z : Bool) : Prop := ∀ w : World, Calls Try.prog 75 #[.int .i64 n, .int .i64 m] w fun e w' => e = .returned (.bool z) ∧ w' = w
theorem blC (n m : Int) (z : Bool) (h : decide (0 ≤ n ∧ n < m) = z) : BlC n m z := fun w => by rw [← h]; exact isBelow_any n m w

set_option maxRecDepth 100000 in
set_option maxHeartbeats 2000000 in
theorem holds_any (r s b o c p q u v : Int) (w : World) :
    Calls Try.prog 48 #[.agg #[.int .i64 r, .int .i64 s, .int .i64 b, .int .i64 o, .int .i64 c], .agg #[.int .i64 p, .int .i64 q, .int .i64 u, .int .i64 v]] w fun e w' => e = .returned (.bool (hd r s b o c p q u v)) ∧ Below w.heap.size w w' := by
  obtain ⟨z0, Z0⟩ : ∃ z, Hid (rt r s b o c = z) := ⟨_, rfl⟩
  obtain ⟨z1, Z1⟩ : ∃ z, Hid (decide (0 ≤ p ∧ p < r + s) = z) := ⟨_, rfl⟩
  obtain ⟨z2, Z2⟩ : ∃ z, Hid (decide (0 ≤ q ∧ q < b) = z) := ⟨_, rfl⟩
  obtain ⟨z3, Z3⟩ : ∃ z, Hid (decide (0 ≤ u ∧ u < o) = z) := ⟨_, rfl⟩
  obtain ⟨z4, Z4⟩ : ∃ z, Hid (decide (0 ≤ v ∧ v < c) = z) := ⟨_, rfl⟩
  obtain ⟨z, Z⟩ : ∃ z, Hid (hd r s b o c p q u v = z) := ⟨_, rfl⟩
  have HR : Hid (∀ w : World, Calls Try.prog 34 #[.agg #[.int .i64 r, .int .i64 s, .int .i64 b, .int .i64 o, .int .i64 c]] w fun e w' => e = .returned (.bool z0) ∧ Below w.heap.size w w') := fun w => by rw [← Z0.out]; exact right_any r s b o c w
  have HC1 : Hid (BlC p (r + s) z1) := blC _ _ _ Z1.out
  have HC2 : Hid (BlC q b z2) := blC _ _ _ Z2.out
  have HC3 : Hid (BlC u o z3) := blC _ _ _ Z3.out
  have HC4 : Hid (BlC v c z4) := blC _ _ _ Z4.out
  rw [Z.out]
  unfold BlC at HC1 HC2 HC3 HC4
  go_enter Try.func48, Try.ntmps48
  go_wp2
  obtain ⟨B, hB⟩ : ∃ B, w.heap.size = B := ⟨_, rfl⟩
  obtain ⟨V, hV⟩ : ∃ V, (w.alloc (.cells #[.int .i64 r, .int .i64 s, .int .i64 b, .int .i64 o, .int .i64 c] 23)).alloc (.cells #[.int .i64 p, .int .i64 q, .int .i64 u, .int .i64 v] 36) = V := ⟨_, rfl⟩
  have k0 : V.cell? ⟨B, 0, none⟩ = some (.int .i64 r) := by rw [← hV, ← hB]; simp [go_sem]
  have k1 : V.cell? ⟨B, 1, none⟩ = some (.int .i64 s) := by rw [← hV, ← hB]; simp [go_sem]
  have k2 : V.cell? ⟨B, 2, none⟩ = some (.int .i64 b) := by rw [← hV, ← hB]; simp [go_sem]
  have k3 : V.cell? ⟨B, 3, none⟩ = some (.int .i64 o) := by rw [← hV, ← hB]; simp [go_sem]
  have k4 : V.cell? ⟨B, 4, none⟩ = some (.int .i64 c) := by rw [← hV, ← hB]; simp [go_sem]
  have j0 : V.cell? ⟨B + 1, 0, none⟩ = some (.int .i64 p) := by rw [← hV, ← hB]; simp [go_sem]
  have j1 : V.cell? ⟨B + 1, 1, none⟩ = some (.int .i64 q) := by rw [← hV, ← hB]; simp [go_sem]
  have j2 : V.cell? ⟨B + 1, 2, none⟩ = some (.int .i64 u) := by rw [← hV, ← hB]; simp [go_sem]
  have j3 : V.cell? ⟨B + 1, 3, none⟩ = some (.int .i64 v) := by rw [← hV, ← hB]; simp [go_sem]
  have HB : Hid (Below B w V) := by rw [← hV, ← hB]; exact ((Below.refl _ w).alloc (Nat.le_refl _) _).alloc (by simp) _
  have hlt : B < V.heap.size := by rw [← hV, ← hB]; simp only [World.size_alloc]; omega
  have hlt1 : B + 1 < V.heap.size := by rw [← hV, ← hB]; simp only [World.size_alloc]; omega
  rw [hV, hB]
  clear hV
  refine region_calm (by kernel_rfl) (by kernel_rfl) (fun W => Below V.heap.size V W) (below_drew1 V) ?_
  intro U hU f hf hof
  have f0 : ∀ u, (f u).cell? ⟨B, 0, none⟩ = some (.int .i64 r) := fun u => ((hf u).cell (p := ⟨B, 0, none⟩) hlt).trans k0
  have f1 : ∀ u, (f u).cell? ⟨B, 1, none⟩ = some (.int .i64 s) := fun u => ((hf u).cell (p := ⟨B, 1, none⟩) hlt).trans k1
  have f2 : ∀ u, (f u).cell? ⟨B, 2, none⟩ = some (.int .i64 b) := fun u => ((hf u).cell (p := ⟨B, 2, none⟩) hlt).trans k2
  have f3 : ∀ u, (f u).cell? ⟨B, 3, none⟩ = some (.int .i64 o) := fun u => ((hf u).cell (p := ⟨B, 3, none⟩) hlt).trans k3
  have f4 : ∀ u, (f u).cell? ⟨B, 4, none⟩ = some (.int .i64 c) := fun u => ((hf u).cell (p := ⟨B, 4, none⟩) hlt).trans k4
  have g0 : ∀ x, (f x).cell? ⟨B + 1, 0, none⟩ = some (.int .i64 p) := fun x => ((hf x).cell (p := ⟨B + 1, 0, none⟩) hlt1).trans j0
  have g1 : ∀ x, (f x).cell? ⟨B + 1, 1, none⟩ = some (.int .i64 q) := fun x => ((hf x).cell (p := ⟨B + 1, 1, none⟩) hlt1).trans j1
  have g2 : ∀ x, (f x).cell? ⟨B + 1, 2, none⟩ = some (.int .i64 u) := fun x => ((hf x).cell (p := ⟨B + 1, 2, none⟩) hlt1).trans j2
  have g3 : ∀ x, (f x).cell? ⟨B + 1, 3, none⟩ = some (.int .i64 v) := fun x => ((hf x).cell (p := ⟨B + 1, 3, none⟩) hlt1).trans j3
  have HN : Hid (∀ u W, Below (f u).heap.size (f u) W → ∃ x, W = f x) := fun u W h => hof W ((hf u).trans (h.mono (hf u).size))
  have HE : Hid (∀ u, Below B w (f u)) := fun u => HB.out.trans ((hf u).mono (Nat.le_of_lt hlt))
  clear k0 k1 k2 k3 k4 j0 j1 j2 j3 hf hof hlt hlt1 HB
  iterate 3 go_big_quiet_step ((go_at_call 34; exact calm_next HN.out (HR.out _)))
  cases z0 with
  | false =>
    obtain rfl : z = false := by rw [← Z.out]; unfold hd; rw [Z0.out]; simp
    repeat (go_big_quiet_step (fail))
    refine wpQuiet_nil ?_
    rintro _ ⟨x, rfl⟩
    go_wp2
    go_ret
    exact ⟨rfl, by first | exact HE.out x | (rw [hB]; exact HE.out x)⟩
  | true =>
    have yR := Ge.rt_all Z0.out
    have HA : Hid (∀ w : World, Calls Try.prog 65 #[.agg #[.int .i64 r, .int .i64 s, .int .i64 b, .int .i64 o, .int .i64 c]] w fun e w' => e = .returned (.int .i64 (r + s)) ∧ Below w.heap.size w w') := fun w => allRanks_any r s b o c (by omega) (by omega) w
    clear yR
    iterate 5 go_big_quiet_step ((first | (go_at_call 65; exact calm_next HN.out (HA.out _)) | (go_at_call 75; exact calm_same (HC1.out _))))
    cases z1 with
    | false =>
      obtain rfl : z = false := by rw [← Z.out]; unfold hd; rw [Z1.out]; simp
      repeat (go_big_quiet_step (fail))
      refine wpQuiet_nil ?_
      rintro _ ⟨x, rfl⟩
      go_wp2
      go_ret
      exact ⟨rfl, by first | exact HE.out x | (rw [hB]; exact HE.out x)⟩
    | true =>
      iterate 7 go_big_quiet_step ((go_at_call 75; exact calm_same (HC2.out _)))
      cases z2 with
      | false =>
        obtain rfl : z = false := by rw [← Z.out]; unfold hd; rw [Z2.out]; simp
        repeat (go_big_quiet_step (fail))
        refine wpQuiet_nil ?_
        rintro _ ⟨x, rfl⟩
        go_wp2
        go_ret
        exact ⟨rfl, by first | exact HE.out x | (rw [hB]; exact HE.out x)⟩
      | true =>
        iterate 7 go_big_quiet_step ((go_at_call 75; exact calm_same (HC3.out _)))
        cases z3 with
        | false =>
          obtain rfl : z = false := by rw [← Z.out]; unfold hd; rw [Z3.out]; simp
          repeat (go_big_quiet_step (fail))
          refine wpQuiet_nil ?_
          rintro _ ⟨x, rfl⟩
          go_wp2
          go_ret
          exact ⟨rfl, by first | exact HE.out x | (rw [hB]; exact HE.out x)⟩
        | true =>
          iterate 7 go_big_quiet_step ((go_at_call 75; exact calm_same (HC4.out _)))
          cases z4 with
          | false =>
            obtain rfl : z = false := by rw [← Z.out]; unfold hd; rw [Z4.out]; simp
            repeat (go_big_quiet_step (fail))
            refine wpQuiet_nil ?_
            rintro _ ⟨x, rfl⟩
            go_wp2
            go_ret
            exact ⟨rfl, by first | exact HE.out x | (rw [hB]; exact HE.out x)⟩
          | true =>
            obtain rfl : z = true := by rw [← Z.out]; unfold hd; rw [Z0.out, Z1.out, Z2.out, Z3.out, Z4.out]; rfl
            repeat (go_big_quiet_step (fail))
            refine wpQuiet_nil ?_
            rintro _ ⟨x, rfl⟩
            go_wp2
            go_ret
            exact ⟨rfl, by first | exact HE.out x | (rw [hB]; exact HE.out x)⟩

set_option maxRecDepth 100000 in
set_option maxHeartbeats 2000000 in
theorem refHolds_any (r s b o c p q u v : Int) (hr : I64 r) (hb : I64 b) (ho : I64 o) (hc : I64 c) (w : World) :
    Calls Try.prog 43 #[.agg #[.int .i64 r, .int .i64 s, .int .i64 b, .int .i64 o, .int .i64 c], .agg #[.int .i64 p, .int .i64 q, .int .i64 u, .int .i64 v]] w fun e w' => e = .returned (.bool (hd r s b o c p q u v)) ∧ Below w.heap.size w w' := by
  obtain ⟨z0, Z0⟩ : ∃ z, Hid (rt r s b o c = z) := ⟨_, rfl⟩
  obtain ⟨z, Z⟩ : ∃ z, Hid (hd r s b o c p q u v = z) := ⟨_, rfl⟩
  have HR : Hid (∀ w : World, Calls Try.prog 10 #[.agg #[.int .i64 r, .int .i64 s, .int .i64 b, .int .i64 o, .int .i64 c]] w fun e w' => e = .returned (.bool z0) ∧ Below w.heap.size w w') := fun w => by rw [← Z0.out]; exact refRight_any r s b o c hr hb ho hc w
  rw [Z.out]
  clear hr hb ho hc
  have HB : Hid (Below w.heap.size w ((w.alloc (.cells #[.int .i64 r, .int .i64 s, .int .i64 b, .int .i64 o, .int .i64 c] 30)).alloc (.cells #[.int .i64 p, .int .i64 q, .int .i64 u, .int .i64 v] 49))) := ((Below.refl _ w).alloc (Nat.le_refl _) _).alloc (by simp) _
  go_enter Try.func43, Try.ntmps43
  go_wp2_with fail
  obtain ⟨B, hB⟩ : ∃ B, w.heap.size = B := ⟨_, rfl⟩
  obtain ⟨V, hV⟩ : ∃ V, (w.alloc (.cells #[.int .i64 r, .int .i64 s, .int .i64 b, .int .i64 o, .int .i64 c] 30)).alloc (.cells #[.int .i64 p, .int .i64 q, .int .i64 u, .int .i64 v] 49) = V := ⟨_, rfl⟩
  rw [hV] at HB ⊢
  rw [hB] at HB ⊢
  have k0 : V.cell? ⟨B, 0, none⟩ = some (.int .i64 r) := by rw [← hV, ← hB]; simp [go_sem]
  have k1 : V.cell? ⟨B, 1, none⟩ = some (.int .i64 s) := by rw [← hV, ← hB]; simp [go_sem]
  have k2 : V.cell? ⟨B, 2, none⟩ = some (.int .i64 b) := by rw [← hV, ← hB]; simp [go_sem]
  have k3 : V.cell? ⟨B, 3, none⟩ = some (.int .i64 o) := by rw [← hV, ← hB]; simp [go_sem]
  have k4 : V.cell? ⟨B, 4, none⟩ = some (.int .i64 c) := by rw [← hV, ← hB]; simp [go_sem]
  have j0 : V.cell? ⟨B + 1, 0, none⟩ = some (.int .i64 p) := by rw [← hV, ← hB]; simp [go_sem]
  have j1 : V.cell? ⟨B + 1, 1, none⟩ = some (.int .i64 q) := by rw [← hV, ← hB]; simp [go_sem]
  have j2 : V.cell? ⟨B + 1, 2, none⟩ = some (.int .i64 u) := by rw [← hV, ← hB]; simp [go_sem]
  have j3 : V.cell? ⟨B + 1, 3, none⟩ = some (.int .i64 v) := by rw [← hV, ← hB]; simp [go_sem]
  have hlt : B < V.heap.size := by rw [← hV, ← hB]; simp only [World.size_alloc]; omega
  have hlt1 : B + 1 < V.heap.size := by rw [← hV, ← hB]; simp only [World.size_alloc]; omega
  clear hV
  refine (HR.out _).mono ?_
  rintro e W ⟨rfl, hW⟩
  have f0 : W.cell? ⟨B, 0, none⟩ = some (.int .i64 r) := (hW.cell (p := ⟨B, 0, none⟩) hlt).trans k0
  have f1 : W.cell? ⟨B, 1, none⟩ = some (.int .i64 s) := (hW.cell (p := ⟨B, 1, none⟩) hlt).trans k1
  have f2 : W.cell? ⟨B, 2, none⟩ = some (.int .i64 b) := (hW.cell (p := ⟨B, 2, none⟩) hlt).trans k2
  have f3 : W.cell? ⟨B, 3, none⟩ = some (.int .i64 o) := (hW.cell (p := ⟨B, 3, none⟩) hlt).trans k3
  have f4 : W.cell? ⟨B, 4, none⟩ = some (.int .i64 c) := (hW.cell (p := ⟨B, 4, none⟩) hlt).trans k4
  have g0 : W.cell? ⟨B + 1, 0, none⟩ = some (.int .i64 p) := (hW.cell (p := ⟨B + 1, 0, none⟩) hlt1).trans j0
  have g1 : W.cell? ⟨B + 1, 1, none⟩ = some (.int .i64 q) := (hW.cell (p := ⟨B + 1, 1, none⟩) hlt1).trans j1
  have g2 : W.cell? ⟨B + 1, 2, none⟩ = some (.int .i64 u) := (hW.cell (p := ⟨B + 1, 2, none⟩) hlt1).trans j2
  have g3 : W.cell? ⟨B + 1, 3, none⟩ = some (.int .i64 v) := (hW.cell (p := ⟨B + 1, 3, none⟩) hlt1).trans j3
  have HE : Hid (Below B w W) := HB.out.trans (hW.mono (Nat.le_of_lt hlt))
  clear k0 k1 k2 k3 k4 j0 j1 j2 j3 hlt hlt1 HB hW
  cases z0 with
  | false =>
    obtain rfl : z = false := by rw [← Z.out]; unfold hd; rw [Z0.out]; simp
    go_wp2
    go_ret
    exact ⟨rfl, by first | exact HE.out | (rw [hB]; exact HE.out)⟩
  | true =>
    have yR := Ge.rt_all Z0.out
    have y0 : 0 ≤ r + s := by omega
    have y1 : r + s ≤ 8 := by omega
    clear yR
    rcases Int.lt_or_le p 0 with n0 | n0
    · obtain rfl : z = false := by rw [← Z.out]; unfold hd; rw [decide_eq_false (show ¬ (0 ≤ p ∧ p < r + s) by omega)]; simp
      have dn : decide (p < 0) = true := decide_eq_true n0
      go_wp2
      go_ret
      exact ⟨rfl, by first | exact HE.out | (rw [hB]; exact HE.out)⟩
    rcases Int.lt_or_le q 0 with n1 | n1
    · obtain rfl : z = false := by rw [← Z.out]; unfold hd; rw [decide_eq_false (show ¬ (0 ≤ q ∧ q < b) by omega)]; simp
      have dn : decide (q < 0) = true := decide_eq_true n1
      go_wp2
      go_ret
      exact ⟨rfl, by first | exact HE.out | (rw [hB]; exact HE.out)⟩
    rcases Int.lt_or_le u 0 with n2 | n2
    · obtain rfl : z = false := by rw [← Z.out]; unfold hd; rw [decide_eq_false (show ¬ (0 ≤ u ∧ u < o) by omega)]; simp
      have dn : decide (u < 0) = true := decide_eq_true n2
      go_wp2
      go_ret
      exact ⟨rfl, by first | exact HE.out | (rw [hB]; exact HE.out)⟩
    rcases Int.lt_or_le v 0 with n3 | n3
    · obtain rfl : z = false := by rw [← Z.out]; unfold hd; rw [decide_eq_false (show ¬ (0 ≤ v ∧ v < c) by omega)]; simp
      have dn : decide (v < 0) = true := decide_eq_true n3
      go_wp2
      go_ret
      exact ⟨rfl, by first | exact HE.out | (rw [hB]; exact HE.out)⟩
    rcases (show r + s ≤ p ∨ p < r + s by omega) with t0 | t0
    · obtain rfl : z = false := by rw [← Z.out]; unfold hd; rw [decide_eq_false (show ¬ (0 ≤ p ∧ p < r + s) by omega)]; simp
      have dn : decide (p < r + s) = false := decide_eq_false (by omega)
      go_wp2
      go_ret
      exact ⟨rfl, by first | exact HE.out | (rw [hB]; exact HE.out)⟩
    rcases (show b ≤ q ∨ q < b by omega) with t1 | t1
    · obtain rfl : z = false := by rw [← Z.out]; unfold hd; rw [decide_eq_false (show ¬ (0 ≤ q ∧ q < b) by omega)]; simp
      have dn : decide (q < b) = false := decide_eq_false (by omega)
      go_wp2
      go_ret
      exact ⟨rfl, by first | exact HE.out | (rw [hB]; exact HE.out)⟩
    rcases (show o ≤ u ∨ u < o by omega) with t2 | t2
    · obtain rfl : z = false := by rw [← Z.out]; unfold hd; rw [decide_eq_false (show ¬ (0 ≤ u ∧ u < o) by omega)]; simp
      have dn : decide (u < o) = false := decide_eq_false (by omega)
      go_wp2
      go_ret
      exact ⟨rfl, by first | exact HE.out | (rw [hB]; exact HE.out)⟩
    rcases (show c ≤ v ∨ v < c by omega) with t3 | t3
    · obtain rfl : z = false := by rw [← Z.out]; unfold hd; rw [decide_eq_false (show ¬ (0 ≤ v ∧ v < c) by omega)]; simp
      have dn : decide (v < c) = false := decide_eq_false (by omega)
      go_wp2
      go_ret
      exact ⟨rfl, by first | exact HE.out | (rw [hB]; exact HE.out)⟩
    obtain rfl : z = true := by rw [← Z.out]; unfold hd; rw [Z0.out, decide_eq_true (show 0 ≤ p ∧ p < r + s by omega), decide_eq_true (show 0 ≤ q ∧ q < b by omega), decide_eq_true (show 0 ≤ u ∧ u < o by omega), decide_eq_true (show 0 ≤ v ∧ v < c by omega)]; rfl
    go_wp2
    go_ret
    exact ⟨rfl, by first | exact HE.out | (rw [hB]; exact HE.out)⟩
end Go.Proofs.Ytcpjmfemgdgplaa
