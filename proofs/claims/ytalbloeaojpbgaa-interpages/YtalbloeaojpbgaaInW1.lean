/-
  The walks of package inter, the leaves: Right, Lines, mix, numbers taken apart.
-/
import Derived.Test.YtalbloeaojpbgaaGeW4
import Derived.Test.YtalbloeaojpbgaaInMath
import Derived.OwnWalk
import Derived.OwnWalkIn
namespace Go.Proofs.Ytalbloeaojpbgaa
open Go.RowKit
open Ge (pw rt hd ix)
open In (mx)
attribute [local go_sem] Oper.semAt_some

theorem isBelow8_any (n m : Int) (w : World) :
    Calls Try.prog 16 #[.int .i64 n, .int .i64 m] w fun e w' => e = .returned (.bool (decide (0 ≤ n ∧ n < m))) ∧ w' = w := by
  by_cases hp : 0 ≤ n
  · by_cases hq : n < m
    · go_enter Try.func16, Try.ntmps16
      go_wp2
      go_ret
      exact ⟨by simp [hp, hq], rfl⟩
    · go_enter Try.func16, Try.ntmps16
      go_wp2
      go_ret
      exact ⟨by simp [hq], rfl⟩
  · go_enter Try.func16, Try.ntmps16
    go_wp2
    go_ret
    refine ⟨?_, rfl⟩
    rw [show (decide (0 ≤ n) && decide (n < m)) = false from by rw [decide_eq_false (by omega), Bool.false_and]]
    rfl

/-- a right geometry and way -/
def rw8 (r s b o c way : Int) : Bool := rt r s b o c && decide (0 ≤ way ∧ way < 4)
theorem right8_any (r s b o c way : Int) (w : World) :
    Calls Try.prog 11 #[.agg #[.int .i64 r, .int .i64 s, .int .i64 b, .int .i64 o, .int .i64 c], .int .i64 way] w fun e w' => e = .returned (.bool (rw8 r s b o c way)) ∧ Below w.heap.size w w' := by
  obtain ⟨z, Z⟩ : ∃ z, Hid (rt r s b o c = z) := ⟨_, rfl⟩
  have HH : Hid (∀ w, Calls Try.prog 22 #[.agg #[.int .i64 r, .int .i64 s, .int .i64 b, .int .i64 o, .int .i64 c]] w fun e w' => e = .returned (.bool z) ∧ Below w.heap.size w w') := fun w => by rw [← Z.out]; exact right_any r s b o c w
  obtain ⟨y, Y⟩ : ∃ y, Hid (decide (0 ≤ way ∧ way < 4) = y) := ⟨_, rfl⟩
  have HI : Hid (∀ w, Calls Try.prog 16 #[.int .i64 way, .int .i64 4] w fun e w' => e = .returned (.bool y) ∧ w' = w) := fun w => by rw [← Y.out]; exact isBelow8_any way 4 w
  unfold rw8
  rw [Z.out, Y.out]
  go_enter Try.func11, Try.ntmps11
  go_wp2_with fail
  refine (HH.out _).mono ?_
  rintro e W ⟨rfl, bW⟩
  have HB : Hid (Below w.heap.size w W) := ((Below.refl _ w).alloc (Nat.le_refl _) _).trans (bW.mono (by simp))
  clear bW
  cases z with
  | true =>
    go_wp2_with (go_at_call 16; refine (HI.out _).mono ?_; rintro e W3 ⟨rfl, rfl⟩)
    go_ret
    exact ⟨rfl, HB.out⟩
  | false =>
    go_wp2
    go_ret
    exact ⟨rfl, HB.out⟩

/-- how many lines there are -/
def lns (r s b o c : Int) : Int := if rt r s b o c = true then r * b * o * c else 0
theorem rt_lines {r s b o c : Int} (h : rt r s b o c = true) : 0 < r * b * o ∧ r * b * o ≤ 4096 ∧ 0 < r * b * o * c ∧ r * b * o * c ≤ 4096 := by
  obtain ⟨⟨h1, _⟩, ⟨h2, _⟩, ⟨h3, _⟩, ⟨h4, _⟩, ⟨h5, _⟩, h6⟩ := Ge.rt_all h
  have p1 : 0 < r * b := Int.mul_pos h1 h3
  have p2 : 0 < r * b * o := Int.mul_pos p1 h4
  have p3 : 0 < r * b * o * c := Int.mul_pos p2 h5
  have q1 : r * b ≤ (r + s) * b := Int.mul_le_mul_of_nonneg_right (by omega) (by omega)
  have q2 : r * b * o ≤ (r + s) * b * o := Int.mul_le_mul_of_nonneg_right q1 (by omega)
  have q3 : r * b * o * c ≤ (r + s) * b * o * c := Int.mul_le_mul_of_nonneg_right q2 (by omega)
  have q4 : r * b * o * 1 ≤ r * b * o * c := Int.mul_le_mul_of_nonneg_left (by omega) (by omega)
  omega
set_option maxHeartbeats 1000000 in
theorem lines_any (r s b o c : Int) (w : World) :
    Calls Try.prog 12 #[.agg #[.int .i64 r, .int .i64 s, .int .i64 b, .int .i64 o, .int .i64 c]] w fun e w' => e = .returned (.int .i64 (lns r s b o c)) ∧ Below w.heap.size w w' := by
  obtain ⟨y, hy0, hy1, Y, hm⟩ : ∃ y : Int, 0 ≤ y ∧ y ≤ 4096 ∧ Hid (pgs r s b o c = y) ∧ IntKind.i64.wrap (y * c) = lns r s b o c := by
    cases h : rt r s b o c with
    | true =>
      have := rt_lines h
      refine ⟨r * b * o, by omega, by omega, by unfold pgs; rw [if_pos h]; rfl, ?_⟩
      unfold lns
      rw [if_pos h]
      simp [IntKind.wrap, IntKind.bits, IntKind.signed]
      omega
    | false => exact ⟨0, by omega, by omega, by unfold pgs; rw [h]; rfl, by unfold lns; rw [h, Int.zero_mul]; rfl⟩
  have HH : Hid (∀ w, Calls Try.prog 17 #[.agg #[.int .i64 r, .int .i64 s, .int .i64 b, .int .i64 o, .int .i64 c]] w fun e w' => e = .returned (.int .i64 y) ∧ Below w.heap.size w w') := fun w => by rw [← Y.out]; exact pages_any r s b o c w
  obtain ⟨z, hz⟩ : ∃ z, lns r s b o c = z := ⟨_, rfl⟩
  rw [hz] at hm ⊢
  clear Y hz
  go_enter Try.func12, Try.ntmps12
  go_wp2
  obtain ⟨V, hV⟩ : ∃ V, w.alloc (.cells #[.int .i64 r, .int .i64 s, .int .i64 b, .int .i64 o, .int .i64 c] 23) = V := ⟨_, rfl⟩
  have HG : Hid (Gm V w.heap.size r s b o c) := by rw [← hV]; exact Gm.new w r s b o c _
  have HB : Hid (Below w.heap.size w V) := by rw [← hV]; exact (Below.refl _ w).alloc (Nat.le_refl _) _
  obtain ⟨B, hB⟩ : ∃ B, w.heap.size = B := ⟨_, rfl⟩
  rw [hB] at HG HB ⊢
  rw [hV]
  clear hV
  refine region_calm (by kernel_rfl) (by kernel_rfl) (fun W => Below V.heap.size V W) (below_drew1 V) ?_
  intro U hU fw hf hof
  have HN : Hid (∀ x W, Below (fw x).heap.size (fw x) W → ∃ y, W = fw y) := fun x W h => hof W ((hf x).trans (h.mono (hf x).size))
  have HF : Hid (∀ x, Gm (fw x) B r s b o c ∧ Below B w (fw x)) := fun x => ⟨HG.out.next (hf x), HB.out.trans ((hf x).mono (Nat.le_of_lt HG.out.lt))⟩
  have g0 : ∀ x, (fw x).cell? ⟨B, 0, none⟩ = some (.int .i64 r) := fun x => (HF.out x).1.c0
  have g1 : ∀ x, (fw x).cell? ⟨B, 1, none⟩ = some (.int .i64 s) := fun x => (HF.out x).1.c1
  have g2 : ∀ x, (fw x).cell? ⟨B, 2, none⟩ = some (.int .i64 b) := fun x => (HF.out x).1.c2
  have g3 : ∀ x, (fw x).cell? ⟨B, 3, none⟩ = some (.int .i64 o) := fun x => (HF.out x).1.c3
  have g4 : ∀ x, (fw x).cell? ⟨B, 4, none⟩ = some (.int .i64 c) := fun x => (HF.out x).1.c4
  clear hf hof
  repeat (go_big_quiet_step ((go_at_call 17; exact calm_next HN.out (HH.out _))))
  refine wpQuiet_nil ?_
  rintro _ ⟨x9, rfl⟩
  have HE := (HF.out x9).2
  go_wp2
  go_ret
  exact ⟨rfl, by rw [hB]; exact HE⟩

theorem i64_xor_nn (a b : Nat) (ha : a < 4611686018427387904) (hb : b < 4611686018427387904) : bits .xor .i64 (a : Int) (b : Int) = ((a ^^^ b : Nat) : Int) := by
  show IntKind.i64.wrap ((BitVec.ofInt 64 (a : Int) ^^^ BitVec.ofInt 64 (b : Int)).toNat : Int) = _
  have := Nat.xor_lt_two_pow (x := a) (y := b) (n := 62) ha hb
  rw [BitVec.toNat_xor, ofInt_u64 a (by omega), ofInt_u64 b (by omega)]
  simp [IntKind.wrap, IntKind.bits, IntKind.signed]
  omega
theorem mix_any (r s b o c p q u v : Int) (hb : pw b 16 = true) (hq : 0 ≤ q ∧ q < 1000) (w : World) :
    Calls Try.prog 30 #[.agg #[.int .i64 r, .int .i64 s, .int .i64 b, .int .i64 o, .int .i64 c], .agg #[.int .i64 p, .int .i64 q, .int .i64 u, .int .i64 v]] w fun e w' => e = .returned (.int .i64 (mx b q u)) ∧ Below w.heap.size w w' := by
  obtain ⟨b0, b1⟩ := Ge.pw_pos hb
  obtain ⟨b2, hb2, hb3, hb4⟩ : ∃ b2 : Int, IntKind.i64.wrap (b - 1) = b2 ∧ b - 1 = b2 ∧ bits .and .i64 u b2 = u % b := by
    refine ⟨b - 1, by simp [IntKind.wrap, IntKind.bits, IntKind.signed]; omega, rfl, ?_⟩
    obtain ⟨k, hk, rfl⟩ := In.pw_two hb
    have := i64_mask u k (2 ^ k) (by omega) rfl
    rw [show ((2 ^ k - 1 : Nat) : Int) = ((2 ^ k : Nat) : Int) - 1 from by have : 0 < 2 ^ k := Nat.pow_pos (by omega); omega] at this
    exact this
  have hm0 := Int.emod_nonneg u (show b ≠ 0 by omega)
  have hm1 := Int.emod_lt_of_pos u b0
  obtain ⟨m, hm⟩ : ∃ m, u % b = m := ⟨_, rfl⟩
  have hx : bits .xor .i64 q m = mx b q u := by
    rw [hm] at hm0 hm1
    obtain ⟨k, rfl⟩ := Int.eq_ofNat_of_zero_le hq.1
    obtain ⟨j, rfl⟩ := Int.eq_ofNat_of_zero_le hm0
    rw [i64_xor_nn k j (by omega) (by omega)]
    unfold mx
    rw [hm]
    simp
  rw [hm] at hb4 hm0 hm1
  obtain ⟨z, hz⟩ : ∃ z, mx b q u = z := ⟨_, rfl⟩
  rw [hz] at hx ⊢
  clear hm hz hb
  go_enter Try.func30, Try.ntmps30
  go_wp2
  go_ret
  exact ⟨rfl, ((Below.refl _ w).alloc (Nat.le_refl _) _).alloc (by simp) _⟩
end Go.Proofs.Ytalbloeaojpbgaa
