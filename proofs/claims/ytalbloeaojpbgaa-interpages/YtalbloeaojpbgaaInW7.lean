/-
  The document's own answers of layer 8: the exclusive or, the place of the next page.
-/
import Derived.Test.YtalbloeaojpbgaaInW4
namespace Go.Proofs.Ytalbloeaojpbgaa
open Go.RowKit
open Ge (pw rt hd ix)
open In (mx plR plQ plU plB pgn bk bkn okp)
attribute [local go_sem] Oper.semAt_some

/-- the exclusive or of the lowest k bits -/
def xk (q u k : Nat) : Nat := (q % 2 ^ k) ^^^ (u % 2 ^ k)
theorem xk_16 : ∀ k, k < 4 → ∀ q, q < 16 → ∀ m, m < 16 → xk q m (k + 1) = xk q m k + (if q / 2 ^ k % 2 ≠ m / 2 ^ k % 2 then 2 ^ k else 0) ∧ xk q m k < 2 ^ k := by decide +kernel
theorem xk_mod (q u k : Nat) (hk : k ≤ 4) : xk q u k = xk q (u % 16) k := by
  unfold xk
  rw [Nat.mod_mod_of_dvd u (show 2 ^ k ∣ 16 from Nat.pow_dvd_pow 2 hk)]
theorem bit_mod (u k : Nat) (hk : k < 4) : u / 2 ^ k % 2 = u % 16 / 2 ^ k % 2 := by
  rcases (show k = 0 ∨ k = 1 ∨ k = 2 ∨ k = 3 by omega) with rfl | rfl | rfl | rfl <;> simp <;> omega
theorem xk_succ (q u k : Nat) (hk : k < 4) (hq : q < 16) : xk q u (k + 1) = xk q u k + (if q / 2 ^ k % 2 ≠ u / 2 ^ k % 2 then 2 ^ k else 0) ∧ xk q u k < 2 ^ k := by
  rw [xk_mod q u (k + 1) (by omega), xk_mod q u k (by omega), bit_mod u k hk]
  exact xk_16 k hk q hq (u % 16) (by omega)
theorem pow_le16 {k : Nat} (h : k ≤ 4) : 1 ≤ 2 ^ k ∧ 2 ^ k ≤ 16 := ⟨Nat.pow_pos (by omega), Nat.pow_le_pow_right (n := 2) (by omega) h⟩
/-- between two rounds: k bits are seen, T is the next one, X what was found -/
structure XrS (q u K k : Nat) (T X : Int) : Prop where
  le : k ≤ K
  t : T = ((2 ^ k : Nat) : Int)
  x : X = (xk q u k : Int)
theorem XrS.step {q u K k : Nat} {T X : Int} (h : XrS q u K k T X) (hq : q < 16) (hK : K ≤ 4) (hk : T < ((2 ^ K : Nat) : Int)) :
    (1 ≤ T ∧ T ≤ 8) ∧ (0 ≤ X ∧ X < 16) ∧ (((q : Int) / T % 2 == (u : Int) / T % 2) = true → XrS q u K (k + 1) (T * 2) X) ∧ (((q : Int) / T % 2 == (u : Int) / T % 2) = false → XrS q u K (k + 1) (T * 2) (X + T)) := by
  have hlt : k < K := by
    have := h.le
    rcases Nat.lt_or_ge k K with h1 | h1
    · exact h1
    · rw [show k = K by omega] at h; rw [h.t] at hk; omega
  have hp := pow_le16 (show k ≤ 4 by omega)
  have hp2 := pow_le16 (show k + 1 ≤ 4 by omega)
  obtain ⟨h1, h2⟩ := xk_succ q u k (by omega) hq
  have e2 : T * 2 = ((2 ^ (k + 1) : Nat) : Int) := by rw [h.t, Nat.pow_succ]; omega
  have e3 : 2 ^ (k + 1) = 2 ^ k * 2 := Nat.pow_succ _ _
  have eq1 : (q : Int) / T % 2 = ((q / 2 ^ k % 2 : Nat) : Int) := by rw [h.t]; simp
  have eq2 : (u : Int) / T % 2 = ((u / 2 ^ k % 2 : Nat) : Int) := by rw [h.t]; simp
  have hx := h.x
  have ht := h.t
  refine ⟨by omega, by omega, fun he => ⟨by omega, e2, ?_⟩, fun he => ⟨by omega, e2, ?_⟩⟩
  · rw [beq_iff_eq, eq1, eq2] at he
    rw [h1, if_neg (by omega)]; omega
  · rw [beq_eq_false_iff_ne, eq1, eq2] at he
    rw [h1, if_pos (by omega)]; omega
theorem XrS.last {q u K k : Nat} {T X : Int} (h : XrS q u K k T X) (hq : q < 2 ^ K) (hk : ((2 ^ K : Nat) : Int) ≤ T) : X = mx ((2 ^ K : Nat) : Int) (q : Int) (u : Int) := by
  have hkK : k = K := by
    have h1 := h.le
    rcases Nat.lt_or_ge k K with h2 | h2
    · have := Nat.pow_lt_pow_right (a := 2) (by omega) h2
      rw [h.t] at hk; omega
    · omega
  subst hkK
  rw [h.x]
  unfold mx xk
  rw [Nat.mod_eq_of_lt hq, ← Int.natCast_emod, Int.toNat_natCast, Int.toNat_natCast]
set_option maxRecDepth 100000 in
set_option maxHeartbeats 4000000 in
theorem refXor_any (q u b : Int) (hb : pw b 16 = true) (hq : 0 ≤ q ∧ q < b) (hu : 0 ≤ u ∧ u < 1024) (w : World) :
    Calls Try.prog 23 #[.int .i64 q, .int .i64 u, .int .i64 b] w fun e w' => e = .returned (.int .i64 (mx b q u)) ∧ Below w.heap.size w w' := by
  obtain ⟨K, hK0, hK⟩ := In.pw_two hb
  have b1 := Ge.pw_pos hb
  have hK4 : K ≤ 4 := by
    rcases Nat.lt_or_ge 4 K with h | h
    · have := Nat.pow_le_pow_right (n := 2) (by omega) h
      omega
    · exact h
  obtain ⟨q, rfl⟩ := Int.eq_ofNat_of_zero_le hq.1
  obtain ⟨u, rfl⟩ := Int.eq_ofNat_of_zero_le hu.1
  have HK : Hid (b = ((2 ^ K : Nat) : Int)) := hK
  have hq16 : q < 16 := by omega
  have hu2 : u < 1024 := by omega
  obtain ⟨z, Hz⟩ : ∃ z, Hid (mx b (q : Int) (u : Int) = z) := ⟨_, rfl⟩
  rw [Hz.out]
  have HX0 : Hid (XrS q u K 0 1 0) := ⟨by omega, rfl, by unfold xk; simp [Nat.mod_one]⟩
  have hb0 := b1.1; have hb16 := b1.2
  have Hq : Hid (q < 2 ^ K) := by show _ < _; omega
  clear hq hu hK hK0 hb b1
  go_enter Try.func23, Try.ntmps23
  go_wp2
  go_loopw [7, 8] (fun x t wr => ∃ (k : Nat) (T X : Int), t = .int .i64 T ∧ x = .int .i64 X ∧ Hid (XrS q u K k T X) ∧ (1 ≤ T ∧ T ≤ 16) ∧ Hid (∃ n, wr = w.drewN n)) (fun _ t _ => 16 - (intOf t).toNat)
  case atStart => exact ⟨0, 1, 0, rfl, rfl, HX0, ⟨by omega, by omega⟩, ⟨0, rfl⟩⟩
  case round =>
    clear HX0
    obtain ⟨k, T, X, rfl, rfl, HX, ⟨t0, t1⟩, HW⟩ := hrel
    by_cases hlt : T < b
    · obtain ⟨⟨_, t2⟩, ⟨x0, x1⟩, h1, h2⟩ := HX.out.step hq16 hK4 (by rw [← HK.out]; exact hlt)
      have H1 : Hid _ := h1
      have H2 : Hid _ := h2
      have v0 : 0 ≤ (q : Int) / T := Int.ediv_nonneg (by omega) (by omega)
      have v1 : (q : Int) / T ≤ q := Int.ediv_le_self _ (by omega)
      have v2 : 0 ≤ (u : Int) / T := Int.ediv_nonneg (by omega) (by omega)
      have v3 : (u : Int) / T ≤ u := Int.ediv_le_self _ (by omega)
      have v4 : (q : Int) / T < 16 := by omega
      have v5 : (u : Int) / T < 1024 := by omega
      clear h1 h2 v1 v3
      cases hc : ((q : Int) / T % 2 == (u : Int) / T % 2) with
      | true =>
        have hc2 : ((q : Int) / T % 2 != (u : Int) / T % 2) = false := by simp only [bne, hc]; rfl
        go_wp2
        go_quiet (fail)
        go_wp2
        go_roundw
        case rel =>
          obtain ⟨n, rfl⟩ := HW.out
          exact ⟨k + 1, T * 2, X, rfl, rfl, H1.out hc, ⟨by omega, by omega⟩, ⟨_, World.drewN_drewN w n nq⟩⟩
        case measure => simp [intOf]; omega
      | false =>
        have hc2 : ((q : Int) / T % 2 != (u : Int) / T % 2) = true := by simp only [bne, hc]; rfl
        go_wp2
        go_quiet (fail)
        go_wp2
        go_roundw
        case rel =>
          obtain ⟨n, rfl⟩ := HW.out
          exact ⟨k + 1, T * 2, X + T, rfl, rfl, H2.out hc, ⟨by omega, by omega⟩, ⟨_, World.drewN_drewN w n nq⟩⟩
        case measure => simp [intOf]; omega
    · go_wp2
      go_ret
      obtain ⟨n, rfl⟩ := HW.out
      refine ⟨?_, below_stay (Below.refl _ w) (Stay.drewN _ w n) (Nat.le_refl _)⟩
      rw [← Hz.out, HK.out, ← HX.out.last Hq.out (by rw [← HK.out]; omega)]
      rfl

set_option maxHeartbeats 1000000 in
theorem next_0A (r s b o c p q u v : Int) (_hp : 0 ≤ p ∧ p < 100000) (_hq : 0 ≤ q ∧ q < 100000) (_hu : 0 ≤ u ∧ u < 100000) (h0 : (u + 1 == o) = false) (h1 : (q == b) = false) (w : World) :
    Calls Try.prog 25 #[.agg #[.int .i64 r, .int .i64 s, .int .i64 b, .int .i64 o, .int .i64 c], .int .i64 0, .agg #[.int .i64 p, .int .i64 q, .int .i64 u, .int .i64 v]] w fun e w' => e = .returned (.agg #[.int .i64 p, .int .i64 q, .int .i64 (u + 1), .int .i64 v]) ∧ Below w.heap.size w w' := by
  obtain ⟨p0, p1⟩ := _hp
  obtain ⟨q0, q1⟩ := _hq
  obtain ⟨u0, u1⟩ := _hu
  go_enter Try.func25, Try.ntmps25
  go_wp2
  refine bodyPost_ret (results_cell_row rfl _ _ (w.heap.size + 1 + 1) _ _ (0, 0) _ rfl (by have := World.alloc_heap_new ((w.alloc (.cells #[.int .i64 r, .int .i64 s, .int .i64 b, .int .i64 o, .int .i64 c] 25)).alloc (.cells #[.int .i64 p, .int .i64 q, .int .i64 (u + 1), .int .i64 v] 46)) (.cells #[.int .i64 p, .int .i64 q, .int .i64 (u + 1), .int .i64 v] 46); simpa using this) Try.underlying46 rfl (by kernel_rfl)) rfl ⟨rfl, ?_⟩
  exact (((Below.refl _ w).alloc (Nat.le_refl _) _).alloc (by simp) _).alloc (by simp only [World.size_alloc]; omega) _

set_option maxHeartbeats 1000000 in
theorem next_0B (r s b o c p q u v : Int) (_hp : 0 ≤ p ∧ p < 100000) (_hq : 0 ≤ q ∧ q < 100000) (_hu : 0 ≤ u ∧ u < 100000) (h0 : (u + 1 == o) = true) (h1 : (q + 1 == b) = false) (w : World) :
    Calls Try.prog 25 #[.agg #[.int .i64 r, .int .i64 s, .int .i64 b, .int .i64 o, .int .i64 c], .int .i64 0, .agg #[.int .i64 p, .int .i64 q, .int .i64 u, .int .i64 v]] w fun e w' => e = .returned (.agg #[.int .i64 p, .int .i64 (q + 1), .int .i64 0, .int .i64 v]) ∧ Below w.heap.size w w' := by
  obtain ⟨p0, p1⟩ := _hp
  obtain ⟨q0, q1⟩ := _hq
  obtain ⟨u0, u1⟩ := _hu
  go_enter Try.func25, Try.ntmps25
  go_wp2
  refine bodyPost_ret (results_cell_row rfl _ _ (w.heap.size + 1 + 1) _ _ (0, 0) _ rfl (by have := World.alloc_heap_new ((w.alloc (.cells #[.int .i64 r, .int .i64 s, .int .i64 b, .int .i64 o, .int .i64 c] 25)).alloc (.cells #[.int .i64 p, .int .i64 (q + 1), .int .i64 0, .int .i64 v] 46)) (.cells #[.int .i64 p, .int .i64 (q + 1), .int .i64 0, .int .i64 v] 46); simpa using this) Try.underlying46 rfl (by kernel_rfl)) rfl ⟨rfl, ?_⟩
  exact (((Below.refl _ w).alloc (Nat.le_refl _) _).alloc (by simp) _).alloc (by simp only [World.size_alloc]; omega) _

set_option maxHeartbeats 1000000 in
theorem next_0C (r s b o c p q u v : Int) (_hp : 0 ≤ p ∧ p < 100000) (_hq : 0 ≤ q ∧ q < 100000) (_hu : 0 ≤ u ∧ u < 100000) (h0 : (u + 1 == o) = true) (h1 : (q + 1 == b) = true) (w : World) :
    Calls Try.prog 25 #[.agg #[.int .i64 r, .int .i64 s, .int .i64 b, .int .i64 o, .int .i64 c], .int .i64 0, .agg #[.int .i64 p, .int .i64 q, .int .i64 u, .int .i64 v]] w fun e w' => e = .returned (.agg #[.int .i64 (p + 1), .int .i64 0, .int .i64 0, .int .i64 v]) ∧ Below w.heap.size w w' := by
  obtain ⟨p0, p1⟩ := _hp
  obtain ⟨q0, q1⟩ := _hq
  obtain ⟨u0, u1⟩ := _hu
  go_enter Try.func25, Try.ntmps25
  go_wp2
  refine bodyPost_ret (results_cell_row rfl _ _ (w.heap.size + 1 + 1) _ _ (0, 0) _ rfl (by have := World.alloc_heap_new ((w.alloc (.cells #[.int .i64 r, .int .i64 s, .int .i64 b, .int .i64 o, .int .i64 c] 25)).alloc (.cells #[.int .i64 (p + 1), .int .i64 0, .int .i64 0, .int .i64 v] 46)) (.cells #[.int .i64 (p + 1), .int .i64 0, .int .i64 0, .int .i64 v] 46); simpa using this) Try.underlying46 rfl (by kernel_rfl)) rfl ⟨rfl, ?_⟩
  exact (((Below.refl _ w).alloc (Nat.le_refl _) _).alloc (by simp) _).alloc (by simp only [World.size_alloc]; omega) _

set_option maxHeartbeats 1000000 in
theorem next_1A (r s b o c p q u v : Int) (_hp : 0 ≤ p ∧ p < 100000) (_hq : 0 ≤ q ∧ q < 100000) (_hu : 0 ≤ u ∧ u < 100000) (h0 : (q + 1 == b) = false) (h1 : (u == o) = false) (w : World) :
    Calls Try.prog 25 #[.agg #[.int .i64 r, .int .i64 s, .int .i64 b, .int .i64 o, .int .i64 c], .int .i64 1, .agg #[.int .i64 p, .int .i64 q, .int .i64 u, .int .i64 v]] w fun e w' => e = .returned (.agg #[.int .i64 p, .int .i64 (q + 1), .int .i64 u, .int .i64 v]) ∧ Below w.heap.size w w' := by
  obtain ⟨p0, p1⟩ := _hp
  obtain ⟨q0, q1⟩ := _hq
  obtain ⟨u0, u1⟩ := _hu
  go_enter Try.func25, Try.ntmps25
  go_wp2
  refine bodyPost_ret (results_cell_row rfl _ _ (w.heap.size + 1 + 1) _ _ (0, 0) _ rfl (by have := World.alloc_heap_new ((w.alloc (.cells #[.int .i64 r, .int .i64 s, .int .i64 b, .int .i64 o, .int .i64 c] 25)).alloc (.cells #[.int .i64 p, .int .i64 (q + 1), .int .i64 u, .int .i64 v] 46)) (.cells #[.int .i64 p, .int .i64 (q + 1), .int .i64 u, .int .i64 v] 46); simpa using this) Try.underlying46 rfl (by kernel_rfl)) rfl ⟨rfl, ?_⟩
  exact (((Below.refl _ w).alloc (Nat.le_refl _) _).alloc (by simp) _).alloc (by simp only [World.size_alloc]; omega) _

set_option maxHeartbeats 1000000 in
theorem next_1B (r s b o c p q u v : Int) (_hp : 0 ≤ p ∧ p < 100000) (_hq : 0 ≤ q ∧ q < 100000) (_hu : 0 ≤ u ∧ u < 100000) (h0 : (q + 1 == b) = true) (h1 : (u + 1 == o) = false) (w : World) :
    Calls Try.prog 25 #[.agg #[.int .i64 r, .int .i64 s, .int .i64 b, .int .i64 o, .int .i64 c], .int .i64 1, .agg #[.int .i64 p, .int .i64 q, .int .i64 u, .int .i64 v]] w fun e w' => e = .returned (.agg #[.int .i64 p, .int .i64 0, .int .i64 (u + 1), .int .i64 v]) ∧ Below w.heap.size w w' := by
  obtain ⟨p0, p1⟩ := _hp
  obtain ⟨q0, q1⟩ := _hq
  obtain ⟨u0, u1⟩ := _hu
  go_enter Try.func25, Try.ntmps25
  go_wp2
  refine bodyPost_ret (results_cell_row rfl _ _ (w.heap.size + 1 + 1) _ _ (0, 0) _ rfl (by have := World.alloc_heap_new ((w.alloc (.cells #[.int .i64 r, .int .i64 s, .int .i64 b, .int .i64 o, .int .i64 c] 25)).alloc (.cells #[.int .i64 p, .int .i64 0, .int .i64 (u + 1), .int .i64 v] 46)) (.cells #[.int .i64 p, .int .i64 0, .int .i64 (u + 1), .int .i64 v] 46); simpa using this) Try.underlying46 rfl (by kernel_rfl)) rfl ⟨rfl, ?_⟩
  exact (((Below.refl _ w).alloc (Nat.le_refl _) _).alloc (by simp) _).alloc (by simp only [World.size_alloc]; omega) _

set_option maxHeartbeats 1000000 in
theorem next_1C (r s b o c p q u v : Int) (_hp : 0 ≤ p ∧ p < 100000) (_hq : 0 ≤ q ∧ q < 100000) (_hu : 0 ≤ u ∧ u < 100000) (h0 : (q + 1 == b) = true) (h1 : (u + 1 == o) = true) (w : World) :
    Calls Try.prog 25 #[.agg #[.int .i64 r, .int .i64 s, .int .i64 b, .int .i64 o, .int .i64 c], .int .i64 1, .agg #[.int .i64 p, .int .i64 q, .int .i64 u, .int .i64 v]] w fun e w' => e = .returned (.agg #[.int .i64 (p + 1), .int .i64 0, .int .i64 0, .int .i64 v]) ∧ Below w.heap.size w w' := by
  obtain ⟨p0, p1⟩ := _hp
  obtain ⟨q0, q1⟩ := _hq
  obtain ⟨u0, u1⟩ := _hu
  go_enter Try.func25, Try.ntmps25
  go_wp2
  refine bodyPost_ret (results_cell_row rfl _ _ (w.heap.size + 1 + 1) _ _ (0, 0) _ rfl (by have := World.alloc_heap_new ((w.alloc (.cells #[.int .i64 r, .int .i64 s, .int .i64 b, .int .i64 o, .int .i64 c] 25)).alloc (.cells #[.int .i64 (p + 1), .int .i64 0, .int .i64 0, .int .i64 v] 46)) (.cells #[.int .i64 (p + 1), .int .i64 0, .int .i64 0, .int .i64 v] 46); simpa using this) Try.underlying46 rfl (by kernel_rfl)) rfl ⟨rfl, ?_⟩
  exact (((Below.refl _ w).alloc (Nat.le_refl _) _).alloc (by simp) _).alloc (by simp only [World.size_alloc]; omega) _

set_option maxHeartbeats 1000000 in
theorem next_2A (r s b o c way p q u v : Int) (hw : 2 ≤ way) (_hp : 0 ≤ p ∧ p < 100000) (_hq : 0 ≤ q ∧ q < 100000) (_hu : 0 ≤ u ∧ u < 100000) (h0 : (p + 1 == r) = false) (h1 : (q == b) = false) (w : World) :
    Calls Try.prog 25 #[.agg #[.int .i64 r, .int .i64 s, .int .i64 b, .int .i64 o, .int .i64 c], .int .i64 way, .agg #[.int .i64 p, .int .i64 q, .int .i64 u, .int .i64 v]] w fun e w' => e = .returned (.agg #[.int .i64 (p + 1), .int .i64 q, .int .i64 u, .int .i64 v]) ∧ Below w.heap.size w w' := by
  obtain ⟨p0, p1⟩ := _hp
  obtain ⟨q0, q1⟩ := _hq
  obtain ⟨u0, u1⟩ := _hu
  have hw0 : (way == 0) = false := by rw [beq_eq_false_iff_ne]; omega
  have hw1 : (way == 1) = false := by rw [beq_eq_false_iff_ne]; omega
  go_enter Try.func25, Try.ntmps25
  go_wp2
  refine bodyPost_ret (results_cell_row rfl _ _ (w.heap.size + 1 + 1) _ _ (0, 0) _ rfl (by have := World.alloc_heap_new ((w.alloc (.cells #[.int .i64 r, .int .i64 s, .int .i64 b, .int .i64 o, .int .i64 c] 25)).alloc (.cells #[.int .i64 (p + 1), .int .i64 q, .int .i64 u, .int .i64 v] 46)) (.cells #[.int .i64 (p + 1), .int .i64 q, .int .i64 u, .int .i64 v] 46); simpa using this) Try.underlying46 rfl (by kernel_rfl)) rfl ⟨rfl, ?_⟩
  exact (((Below.refl _ w).alloc (Nat.le_refl _) _).alloc (by simp) _).alloc (by simp only [World.size_alloc]; omega) _

set_option maxHeartbeats 1000000 in
theorem next_2B (r s b o c way p q u v : Int) (hw : 2 ≤ way) (_hp : 0 ≤ p ∧ p < 100000) (_hq : 0 ≤ q ∧ q < 100000) (_hu : 0 ≤ u ∧ u < 100000) (h0 : (p + 1 == r) = true) (h1 : (q + 1 == b) = false) (w : World) :
    Calls Try.prog 25 #[.agg #[.int .i64 r, .int .i64 s, .int .i64 b, .int .i64 o, .int .i64 c], .int .i64 way, .agg #[.int .i64 p, .int .i64 q, .int .i64 u, .int .i64 v]] w fun e w' => e = .returned (.agg #[.int .i64 0, .int .i64 (q + 1), .int .i64 u, .int .i64 v]) ∧ Below w.heap.size w w' := by
  obtain ⟨p0, p1⟩ := _hp
  obtain ⟨q0, q1⟩ := _hq
  obtain ⟨u0, u1⟩ := _hu
  have hw0 : (way == 0) = false := by rw [beq_eq_false_iff_ne]; omega
  have hw1 : (way == 1) = false := by rw [beq_eq_false_iff_ne]; omega
  go_enter Try.func25, Try.ntmps25
  go_wp2
  refine bodyPost_ret (results_cell_row rfl _ _ (w.heap.size + 1 + 1) _ _ (0, 0) _ rfl (by have := World.alloc_heap_new ((w.alloc (.cells #[.int .i64 r, .int .i64 s, .int .i64 b, .int .i64 o, .int .i64 c] 25)).alloc (.cells #[.int .i64 0, .int .i64 (q + 1), .int .i64 u, .int .i64 v] 46)) (.cells #[.int .i64 0, .int .i64 (q + 1), .int .i64 u, .int .i64 v] 46); simpa using this) Try.underlying46 rfl (by kernel_rfl)) rfl ⟨rfl, ?_⟩
  exact (((Below.refl _ w).alloc (Nat.le_refl _) _).alloc (by simp) _).alloc (by simp only [World.size_alloc]; omega) _

set_option maxHeartbeats 1000000 in
theorem next_2C (r s b o c way p q u v : Int) (hw : 2 ≤ way) (_hp : 0 ≤ p ∧ p < 100000) (_hq : 0 ≤ q ∧ q < 100000) (_hu : 0 ≤ u ∧ u < 100000) (h0 : (p + 1 == r) = true) (h1 : (q + 1 == b) = true) (w : World) :
    Calls Try.prog 25 #[.agg #[.int .i64 r, .int .i64 s, .int .i64 b, .int .i64 o, .int .i64 c], .int .i64 way, .agg #[.int .i64 p, .int .i64 q, .int .i64 u, .int .i64 v]] w fun e w' => e = .returned (.agg #[.int .i64 0, .int .i64 0, .int .i64 (u + 1), .int .i64 v]) ∧ Below w.heap.size w w' := by
  obtain ⟨p0, p1⟩ := _hp
  obtain ⟨q0, q1⟩ := _hq
  obtain ⟨u0, u1⟩ := _hu
  have hw0 : (way == 0) = false := by rw [beq_eq_false_iff_ne]; omega
  have hw1 : (way == 1) = false := by rw [beq_eq_false_iff_ne]; omega
  go_enter Try.func25, Try.ntmps25
  go_wp2
  refine bodyPost_ret (results_cell_row rfl _ _ (w.heap.size + 1 + 1) _ _ (0, 0) _ rfl (by have := World.alloc_heap_new ((w.alloc (.cells #[.int .i64 r, .int .i64 s, .int .i64 b, .int .i64 o, .int .i64 c] 25)).alloc (.cells #[.int .i64 0, .int .i64 0, .int .i64 (u + 1), .int .i64 v] 46)) (.cells #[.int .i64 0, .int .i64 0, .int .i64 (u + 1), .int .i64 v] 46); simpa using this) Try.underlying46 rfl (by kernel_rfl)) rfl ⟨rfl, ?_⟩
  exact (((Below.refl _ w).alloc (Nat.le_refl _) _).alloc (by simp) _).alloc (by simp only [World.size_alloc]; omega) _
end Go.Proofs.Ytalbloeaojpbgaa
