/-
  The walks of Pow, and of the document's powers; the law GfLogs.
-/
import Derived.Test.YtmjmjccfhnckiaaGfLaws
import Derived.Deep.DeepCutAuto
namespace Go.Proofs.Ytmjmjccfhnckiaa
open Go.RowKit
open Gf (eI lI gI dI pI)

set_option maxRecDepth 100000 in
set_option maxHeartbeats 1000000 in
theorem gfLogs_walk (a b : Int) (w0 : (Lit.int .u8 a).wf = true) (w1 : (Lit.int .u8 b).wf = true) (w : World) :
    Calls Try.prog 7 #[.int .u8 a, .int .u8 b] w fun e w' => e = .returned (.bool true) ∧ Grown w w' := by
  have ha := bounds_u8 w0
  have hb := bounds_u8 w1
  clear w0 w1
  have hf := fldAt_new w 49
  by_cases hz : a = 0
  · subst hz
    go_enter Try.func7, Try.ntmps7
    go_wp2_with (first | (go_at_call 9; refine (new_any _).mono ?_; rintro e w' ⟨rfl, rfl⟩) | (go_at_call 10; refine (anchor_any _ _ hf).mono ?_; rintro e w' ⟨rfl, k, rfl⟩))
    go_ret
    exact ⟨rfl, grown_new w _ _⟩
  by_cases hy : b = 0
  · subst hy
    have hz' : (a == 0) = false := by simp [hz]
    go_enter Try.func7, Try.ntmps7
    go_wp2_with (first | (go_at_call 9; refine (new_any _).mono ?_; rintro e w' ⟨rfl, rfl⟩) | (go_at_call 10; refine (anchor_any _ _ hf).mono ?_; rintro e w' ⟨rfl, k, rfl⟩))
    go_ret
    exact ⟨rfl, grown_new w _ _⟩
  · have hz' : (a == 0) = false := by simp [hz]
    have hy' : (b == 0) = false := by simp [hy]
    have la := Gf.lI_bd a
    have lb := Gf.lI_bd b
    have ha0 : 0 < a := by omega
    have hb0 : 0 < b := by omega
    have e1 : (eI (lI a + lI b) == gI a b) = true := by rw [beq_iff_eq]; exact gI_of_logs a b ha0 (by omega) hb0 (by omega)
    have e2 : (eI (lI a - lI b) == dI a b) = true := by rw [beq_iff_eq]; unfold dI; rw [if_neg hz]
    have e3 : (eI (lI a) == a) = true := by rw [beq_iff_eq]; exact Gf.eI_lI a ha0 (by omega)
    have e4 : (eI (lI a + 255) == a) = true := by rw [beq_iff_eq, Gf.eI_congr (lI a + 255) (lI a) (by omega)]; exact Gf.eI_lI a ha0 (by omega)
    go_enter Try.func7, Try.ntmps7
    go_wp2_with (first | (go_at_call 9; refine (new_any _).mono ?_; rintro e w' ⟨rfl, rfl⟩) | (go_at_call 10; refine (anchor_any _ _ hf).mono ?_; rintro e w' ⟨rfl, k, rfl⟩) | (go_at_call 16; refine (log_any _ _ (by omega) (by omega) _ (by exact hf.of fun _ => rfl)).mono ?_; rintro e w' ⟨rfl, rfl⟩) | (go_at_call 17; refine (exp_any _ _ _ (by exact hf.of fun _ => rfl)).mono ?_; rintro e w' ⟨rfl, rfl⟩) | (go_at_call 11; refine (div_any _ _ _ (by omega) (by omega) (by omega) (by omega) _ (by exact hf.of fun _ => rfl)).mono ?_; rintro e w' ⟨rfl, k, rfl⟩) | (go_at_call 15; refine (refMul_any _ _ (by omega) (by omega) (by omega) (by omega) _).mono ?_; rintro e w' ⟨rfl, rfl⟩))
    go_ret
    exact ⟨rfl, grown_new w _ _⟩

theorem pow_low (b : Nat) (a n : Int) (hn : n ≤ 0) (w : World) :
    Calls Try.prog 18 #[.pointer (some ⟨b, 0, none⟩), .int .u8 a, .int .i64 n] w fun e w' => e = .returned (.int .u8 1) ∧ w' = w := by
  go_enter Try.func18, Try.ntmps18
  go_wp2
  go_ret
  exact ⟨rfl, rfl⟩
theorem pow_null (b : Nat) (n : Int) (hn : 0 < n) (w : World) :
    Calls Try.prog 18 #[.pointer (some ⟨b, 0, none⟩), .int .u8 0, .int .i64 n] w fun e w' => e = .returned (.int .u8 0) ∧ w' = w := by
  go_enter Try.func18, Try.ntmps18
  go_wp2
  go_ret
  exact ⟨rfl, rfl⟩
set_option maxHeartbeats 400000 in
theorem pow_some (b : Nat) (a n : Int) (ha0 : 0 < a) (ha1 : a < 256) (hn : 0 < n) (w : World) (hf : FldAt w b) :
    Calls Try.prog 18 #[.pointer (some ⟨b, 0, none⟩), .int .u8 a, .int .i64 n] w fun e w' => e = .returned (.int .u8 (pI a n)) ∧ w' = w := by
  have hc := hf.log a (by omega) ha1
  have hl := Gf.lI_bd a
  have hz : (a == 0) = false := by simp; omega
  go_enter Try.func18, Try.ntmps18
  have hm : 0 ≤ n % 255 ∧ n % 255 < 255 := ⟨Int.emod_nonneg _ (by decide), Int.emod_lt_of_pos _ (by decide)⟩
  have HP : Hid (0 ≤ lI a * (n % 255) ∧ lI a * (n % 255) ≤ 254 * 254) := ⟨Int.mul_nonneg hl.1 hm.1, Int.mul_le_mul (by omega) (by omega) hm.1 (by decide)⟩
  go_wp2_with (go_at_call 17; refine (exp_any _ _ _ hf).mono ?_; rintro e w' ⟨rfl, rfl⟩)
  go_ret
  refine ⟨ret_int ?_, rfl⟩
  have h1 := HP.out
  rw [Go.IntWalk.wrap64_in _ (by omega), Gf.pI_of a n ha0 ha1 (by omega)]
  refine Gf.eI_congr _ _ ?_
  rw [Int.mul_emod, Int.emod_emod, ← Int.mul_emod]
/-- Pow, of all elements and numbers above 0 -/
theorem pow_any (b : Nat) (a n : Int) (ha0 : 0 ≤ a) (ha1 : a < 256) (hn : 0 < n) (w : World) (hf : FldAt w b) :
    Calls Try.prog 18 #[.pointer (some ⟨b, 0, none⟩), .int .u8 a, .int .i64 n] w fun e w' => e = .returned (.int .u8 (pI a n)) ∧ w' = w := by
  by_cases h : a = 0
  · subst h
    rw [Gf.pI_null n hn]
    exact pow_null b n hn w
  · exact pow_some b a n (by omega) ha1 hn w hf

set_option maxHeartbeats 400000 in
theorem refPow_any (a n : Int) (ha0 : 0 ≤ a) (ha1 : a < 256) (hn : 0 ≤ n) (hn1 : n < 4611686018427387904) (w : World) :
    Calls Try.prog 19 #[.int .u8 a, .int .i64 n] w fun e w' => e = .returned (.int .u8 (pI a n)) ∧ w' = w := by
  go_enter Try.func19, Try.ntmps19
  go_wp2
  go_loop [5, 6] (fun p i => ∃ k x : Int, 0 ≤ k ∧ k ≤ n ∧ 0 ≤ x ∧ x < 256 ∧ Hid (x = pI a k) ∧ i = .int .i64 k ∧ p = .int .u8 x) (fun _ i => (n - intOf i).toNat)
  case atStart => exact ⟨0, 1, by omega, by omega, by omega, by omega, (Gf.pI_zero a).symm, rfl, rfl⟩
  case round =>
    obtain ⟨k, x, hk0, hk1, hx0, hx1, Hx, rfl, rfl⟩ := hrel
    by_cases hlt : k < n
    · have hg := Gf.gI_bd x a
      have Hx' : Hid (gI x a = pI a (k + 1)) := by show _ = _; rw [Gf.pI_step a k hk0, Hx.out]
      go_wp2_with (go_at_call 15; refine (refMul_any _ _ (by omega) (by omega) (by omega) (by omega) _).mono ?_; rintro e w' ⟨rfl, rfl⟩)
      go_round
      case rel => exact ⟨k + 1, gI x a, by omega, by omega, hg.1, hg.2, Hx', by go_num, rfl⟩
      case measure => simp [intOf]; omega
    · have : k = n := by omega
      subst this
      go_wp2
      go_ret
      exact ⟨ret_int Hx.out, rfl⟩

set_option maxRecDepth 100000 in
set_option maxHeartbeats 1000000 in
theorem gfPowers_walk (a n m : Int) (w0 : (Lit.int .u8 a).wf = true) (w1 : (Lit.int .i64 n).wf = true) (w2 : (Lit.int .i64 m).wf = true) (w : World) :
    Calls Try.prog 5 #[.int .u8 a, .int .i64 n, .int .i64 m] w fun e w' => e = .returned (.bool true) ∧ Grown w w' := by
  have ha := bounds_u8 w0
  have hn := bounds_i64 w1
  have hm := bounds_i64 w2
  clear w0 w1 w2
  have hf := fldAt_new w 49
  have en := Gf.eI_bd n
  have em := Gf.eI_bd m
  have hL := Gf.lI_bd (eI n)
  go_enter Try.func5, Try.ntmps5
  go_upto_region 5 with (first | (go_at_call 9; refine (new_any _).mono ?_; rintro e w' ⟨rfl, rfl⟩) | (go_at_call 10; refine (anchor_any _ _ hf).mono ?_; rintro e w' ⟨rfl, k1, rfl⟩) | (go_at_call 16; refine (log_any _ _ (by omega) (by omega) _ (by exact hf.of fun _ => rfl)).mono ?_; rintro e w' ⟨rfl, rfl⟩) | (go_at_call 17; refine (exp_any _ _ _ (by exact hf.of fun _ => rfl)).mono ?_; rintro e w' ⟨rfl, rfl⟩))
  have hd1 : decide (lI (eI n) < 0) = false := by simp; omega
  have hd2 : decide (254 < lI (eI n)) = false := by simp; omega
  go_cut [49] (fun c wx => c = .bool false ∧ wx = (w.alloc (.cells fieldCells 49)).drewN k1)
  case first =>
    by_cases hlo : n ≤ -4611686018427387904
    · have h1 : decide (-4611686018427387904 < n) = false := by simp; omega
      go_wp2
      all_goals
        go_meet
        case rel => exact ⟨rfl, rfl⟩
    · by_cases hhi : 4611686018427387904 ≤ n
      · have h1 : decide (-4611686018427387904 < n) = true := by simp; omega
        have h2 : decide (n < 4611686018427387904) = false := by simp; omega
        go_wp2
        all_goals
          go_meet
          case rel => exact ⟨rfl, rfl⟩
      · have h3 : (n - lI (eI n)).tmod 255 = 0 := by
          rw [Gf.lI_eI]; exact Int.tmod_eq_zero_of_dvd (by omega)
        go_wp2
        all_goals
          go_meet
          case rel => exact ⟨rfl, rfl⟩
  case rest =>
    clear hd1 hd2
    obtain ⟨rfl, rfl⟩ := hcut
    go_upto_region 7 with fail
    go_cut [81] (fun c wx => c = .bool false ∧ ∃ k2, wx = (w.alloc (.cells fieldCells 49)).drewN k2)
    case first =>
      by_cases hlo : n ≤ -4611686018427387904
      · have h1 : decide (-4611686018427387904 < n) = false := by simp; omega
        go_wp2
        go_meet
        case rel => exact ⟨rfl, _, rfl⟩
      by_cases hhi : 4611686018427387904 ≤ n
      · have h1 : decide (-4611686018427387904 < n) = true := by simp; omega
        have h2 : decide (n < 4611686018427387904) = false := by simp; omega
        go_wp2
        go_meet
        case rel => exact ⟨rfl, _, rfl⟩
      have h1 : decide (-4611686018427387904 < n) = true := by simp; omega
      have h2 : decide (n < 4611686018427387904) = true := by simp; omega
      by_cases mlo : m ≤ -4611686018427387904
      · have m1 : decide (-4611686018427387904 < m) = false := by simp; omega
        go_wp2
        go_meet
        case rel => exact ⟨rfl, _, rfl⟩
      by_cases mhi : 4611686018427387904 ≤ m
      · have m1 : decide (-4611686018427387904 < m) = true := by simp; omega
        have m2 : decide (m < 4611686018427387904) = false := by simp; omega
        go_wp2
        go_meet
        case rel => exact ⟨rfl, _, rfl⟩
      have m1 : decide (-4611686018427387904 < m) = true := by simp; omega
      have m2 : decide (m < 4611686018427387904) = true := by simp; omega
      have tn := tmod_255 n
      have tm := tmod_255 m
      have hE : (gI (eI n) (eI m) != eI (n.tmod 255 + m.tmod 255)) = false := by
        rw [Gf.gI_eI, bne_eq_false_iff_eq]; refine Gf.eI_congr _ _ ?_
        have h1 : n % 255 = n.tmod 255 % 255 := by omega
        have h2 : m % 255 = m.tmod 255 % 255 := by omega
        omega
      have tn1 := tn.1
      have tn2 := tn.2.1
      have tm1 := tm.1
      have tm2 := tm.2.1
      clear tn tm
      go_wp2_with (first | (go_at_call 17; refine (exp_any _ _ _ (by exact hf.of fun _ => rfl)).mono ?_; rintro e w' ⟨rfl, rfl⟩) | (go_at_call 13; refine (mul_any _ _ _ (by omega) (by omega) (by omega) (by omega) _ (by exact hf.of fun _ => rfl)).mono ?_; rintro e w' ⟨rfl, k, rfl⟩))
      go_meet
      case rel => exact ⟨rfl, _, rfl⟩
    case rest =>
      obtain ⟨rfl, k2, rfl⟩ := hcut
      by_cases hn0 : n ≤ 0
      · go_wp2_with (go_at_call 18; refine (pow_low _ _ _ hn0 _).mono ?_; rintro e w' ⟨rfl, rfl⟩)
        go_ret
        exact ⟨rfl, grown_new w _ _⟩
      have hn1 : 0 < n := by omega
      by_cases hz : a = 0
      · subst hz
        by_cases hk : 255 < n
        all_goals
          go_wp2_with (first | (go_at_call 16; refine (log_zero _ _).mono ?_; rintro e w' ⟨rfl, rfl⟩) | (go_at_call 18; refine (pow_null _ _ hn1 _).mono ?_; rintro e w' ⟨rfl, rfl⟩))
          go_ret
          exact ⟨rfl, grown_new w _ _⟩
      have hz' : (a == 0) = false := by simp [hz]
      have la := Gf.lI_bd a
      have hx : (pI 2 (lI a) == a) = true := by
        rw [beq_iff_eq, Gf.pI_of 2 _ (by decide) (by decide) la.1, show lI 2 = 1 from by decide +kernel, Int.one_mul]
        exact Gf.eI_lI a (by omega) (by omega)
      by_cases hk : 255 < n
      · have hp : (pI a n == pI a (n % 255 + 255)) = true := by
          rw [beq_iff_eq, Gf.pI_of a n (by omega) (by omega) (by omega), Gf.pI_of a _ (by omega) (by omega) (by omega)]
          refine Gf.eI_congr _ _ ?_
          rw [Int.mul_emod, Int.mul_emod (lI a) (n % 255 + 255)]
          congr 2; omega
        go_wp2_with (first | (go_at_call 16; refine (log_any _ _ (by omega) (by omega) _ (by exact hf.of fun _ => rfl)).mono ?_; rintro e w' ⟨rfl, rfl⟩) | (go_at_call 18; refine (pow_any _ _ _ (by omega) (by omega) hn1 _ (by exact hf.of fun _ => rfl)).mono ?_; rintro e w' ⟨rfl, rfl⟩) | (go_at_call 19; refine (refPow_any _ _ (by omega) (by omega) (by omega) (by omega) _).mono ?_; rintro e w' ⟨rfl, rfl⟩))
        go_ret
        exact ⟨rfl, grown_new w _ _⟩
      · go_wp2_with (first | (go_at_call 16; refine (log_any _ _ (by omega) (by omega) _ (by exact hf.of fun _ => rfl)).mono ?_; rintro e w' ⟨rfl, rfl⟩) | (go_at_call 18; refine (pow_any _ _ _ (by omega) (by omega) hn1 _ (by exact hf.of fun _ => rfl)).mono ?_; rintro e w' ⟨rfl, rfl⟩) | (go_at_call 19; refine (refPow_any _ _ (by omega) (by omega) (by omega) (by omega) _).mono ?_; rintro e w' ⟨rfl, rfl⟩))
        go_ret
        exact ⟨rfl, grown_new w _ _⟩

end Go.Proofs.Ytmjmjccfhnckiaa
