/-
  The walks of the laws GfMuls and GfField, out of the contracts.
-/
import Derived.Test.YtmjmjccfhnckiaaGfW3
import Derived.OpenShut
namespace Go.Proofs.Ytmjmjccfhnckiaa
open Go.RowKit
open Gf (eI lI gI dI pI)

theorem Grown.drewN {W w' : World} (h : Grown W w') (k : Nat) : Grown W (w'.drewN k) := h
theorem grown_new (w : World) (c : Array Value) (t : TypeId) : Grown w (w.alloc (.cells c t)) := (Grown.refl w).alloc _ _

set_option maxRecDepth 100000 in
set_option maxHeartbeats 400000 in
theorem gfMuls_walk (a b : Int) (w0 : (Lit.int .u8 a).wf = true) (w1 : (Lit.int .u8 b).wf = true) (w : World) :
    Calls Try.prog 3 #[.int .u8 a, .int .u8 b] w fun e w' => e = .returned (.bool true) ∧ Grown w w' := by
  have ha := bounds_u8 w0
  have hb := bounds_u8 w1
  clear w0 w1
  have hf := fldAt_new w 49
  by_cases hz : b = 0
  · subst hz
    have e1 : gI a 0 = 0 := Gf.gI_zero_right a
    go_enter Try.func3, Try.ntmps3
    go_wp2_with (first | (go_at_call 9; refine (new_any _).mono ?_; rintro e w' ⟨rfl, rfl⟩) | (go_at_call 10; refine (anchor_any _ _ hf).mono ?_; rintro e w' ⟨rfl, k, rfl⟩) | (go_at_call 11; refine (div_zero _ _ _).mono ?_; rintro e w' ⟨rfl, rfl⟩) | (go_at_call 12; refine (inv_zero _ _).mono ?_; rintro e w' ⟨rfl, rfl⟩) | (go_at_call 13; refine (mul_any _ _ _ (by omega) (by omega) (by omega) (by omega) _ (by exact hf.of fun _ => rfl)).mono ?_; rintro e w' ⟨rfl, k, rfl⟩))
    go_ret
    exact ⟨rfl, grown_new w _ _⟩
  · have hz' : (b == 0) = false := by simp [hz]
    have d1 := Gf.dI_bd a b
    have d2 := Gf.dI_bd 1 b
    have e2 : (gI (dI 1 b) b == 1) = true := by rw [beq_iff_eq]; exact Gf.gI_dI 1 b (by decide) (by decide) (by omega) (by omega)
    go_enter Try.func3, Try.ntmps3
    go_wp2_with (first | (go_at_call 9; refine (new_any _).mono ?_; rintro e w' ⟨rfl, rfl⟩) | (go_at_call 10; refine (anchor_any _ _ hf).mono ?_; rintro e w' ⟨rfl, k, rfl⟩) | (go_at_call 11; refine (div_any _ _ _ (by omega) (by omega) (by omega) (by omega) _ (by exact hf.of fun _ => rfl)).mono ?_; rintro e w' ⟨rfl, k, rfl⟩) | (go_at_call 12; refine (inv_any _ _ (by omega) (by omega) _ (by exact hf.of fun _ => rfl)).mono ?_; rintro e w' ⟨rfl, k, rfl⟩) | (go_at_call 13; refine (mul_any _ _ _ (by omega) (by omega) (by omega) (by omega) _ (by exact hf.of fun _ => rfl)).mono ?_; rintro e w' ⟨rfl, k, rfl⟩) | (go_at_call 14; refine (refDiv_any _ _ (by omega) (by omega) (by omega) (by omega) _).mono ?_; rintro e w' ⟨rfl, rfl⟩) | (go_at_call 15; refine (refMul_any _ _ (by omega) (by omega) (by omega) (by omega) _).mono ?_; rintro e w' ⟨rfl, rfl⟩))
    go_ret
    exact ⟨rfl, grown_new w _ _⟩

set_option maxRecDepth 100000 in
set_option maxHeartbeats 1000000 in
theorem gfField_r (a b c : Int) (ha : 0 ≤ a ∧ a ≤ 255) (hb : 0 ≤ b ∧ b ≤ 255) (hc : 0 ≤ c ∧ c ≤ 255) (w : World) (h3 : (gI a b != 0) = true) :
    Calls Try.prog 4 #[.int .u8 a, .int .u8 b, .int .u8 c] w fun e w' => e = .returned (.bool true) ∧ Grown w w' := by
  have hf := fldAt_new w 49
  have g1 := Gf.gI_bd a b
  have g2 := Gf.gI_bd b c
  have g3 := Gf.xor8_bd b c (by omega) (by omega) (by omega) (by omega)
  have e1 : (gI a b == gI b a) = true := by rw [beq_iff_eq]; exact Gf.gI_comm a b
  have e2 : (gI (gI a b) c == gI a (gI b c)) = true := by rw [beq_iff_eq]; exact Gf.gI_assoc a b c (by omega) (by omega) (by omega) (by omega) (by omega) (by omega)
  have e3 : (gI a (bits .xor .u8 b c) == bits .xor .u8 (gI a b) (gI a c)) = true := by rw [beq_iff_eq]; exact Gf.gI_xor a b c (by omega) (by omega) (by omega) (by omega) (by omega) (by omega)
  have e4 : (gI a 1 == a) = true := by rw [beq_iff_eq]; exact Gf.gI_one a (by omega) (by omega)
  go_enter Try.func4, Try.ntmps4
  go_wp2_with (first | (go_at_call 9; refine (new_any _).mono ?_; rintro e w' ⟨rfl, rfl⟩) | (go_at_call 10; refine (anchor_any _ _ hf).mono ?_; rintro e w' ⟨rfl, k, rfl⟩) | (go_at_call 13; refine (mul_any _ _ _ (by omega) (by omega) (by omega) (by omega) _ (by exact hf.of fun _ => rfl)).mono ?_; rintro e w' ⟨rfl, k, rfl⟩))
  go_ret
  exact ⟨rfl, grown_new w _ _⟩
set_option maxRecDepth 100000 in
set_option maxHeartbeats 1000000 in
theorem gfField_p (a b c : Int) (ha : 0 ≤ a ∧ a ≤ 255) (hb : 0 ≤ b ∧ b ≤ 255) (hc : 0 ≤ c ∧ c ≤ 255) (w : World) (h3 : (gI a b != 0) = false) (h1 : (a == 0) = true) :
    Calls Try.prog 4 #[.int .u8 a, .int .u8 b, .int .u8 c] w fun e w' => e = .returned (.bool true) ∧ Grown w w' := by
  have hf := fldAt_new w 49
  have g1 := Gf.gI_bd a b
  have g2 := Gf.gI_bd b c
  have g3 := Gf.xor8_bd b c (by omega) (by omega) (by omega) (by omega)
  have e1 : (gI a b == gI b a) = true := by rw [beq_iff_eq]; exact Gf.gI_comm a b
  have e2 : (gI (gI a b) c == gI a (gI b c)) = true := by rw [beq_iff_eq]; exact Gf.gI_assoc a b c (by omega) (by omega) (by omega) (by omega) (by omega) (by omega)
  have e3 : (gI a (bits .xor .u8 b c) == bits .xor .u8 (gI a b) (gI a c)) = true := by rw [beq_iff_eq]; exact Gf.gI_xor a b c (by omega) (by omega) (by omega) (by omega) (by omega) (by omega)
  have e4 : (gI a 1 == a) = true := by rw [beq_iff_eq]; exact Gf.gI_one a (by omega) (by omega)
  go_enter Try.func4, Try.ntmps4
  go_wp2_with (first | (go_at_call 9; refine (new_any _).mono ?_; rintro e w' ⟨rfl, rfl⟩) | (go_at_call 10; refine (anchor_any _ _ hf).mono ?_; rintro e w' ⟨rfl, k, rfl⟩) | (go_at_call 13; refine (mul_any _ _ _ (by omega) (by omega) (by omega) (by omega) _ (by exact hf.of fun _ => rfl)).mono ?_; rintro e w' ⟨rfl, k, rfl⟩))
  go_ret
  exact ⟨rfl, grown_new w _ _⟩
set_option maxRecDepth 100000 in
set_option maxHeartbeats 1000000 in
theorem gfField_q (a b c : Int) (ha : 0 ≤ a ∧ a ≤ 255) (hb : 0 ≤ b ∧ b ≤ 255) (hc : 0 ≤ c ∧ c ≤ 255) (w : World) (h3 : (gI a b != 0) = false) (h1 : (a == 0) = false) (h2 : (b == 0) = true) :
    Calls Try.prog 4 #[.int .u8 a, .int .u8 b, .int .u8 c] w fun e w' => e = .returned (.bool true) ∧ Grown w w' := by
  have hf := fldAt_new w 49
  have g1 := Gf.gI_bd a b
  have g2 := Gf.gI_bd b c
  have g3 := Gf.xor8_bd b c (by omega) (by omega) (by omega) (by omega)
  have e1 : (gI a b == gI b a) = true := by rw [beq_iff_eq]; exact Gf.gI_comm a b
  have e2 : (gI (gI a b) c == gI a (gI b c)) = true := by rw [beq_iff_eq]; exact Gf.gI_assoc a b c (by omega) (by omega) (by omega) (by omega) (by omega) (by omega)
  have e3 : (gI a (bits .xor .u8 b c) == bits .xor .u8 (gI a b) (gI a c)) = true := by rw [beq_iff_eq]; exact Gf.gI_xor a b c (by omega) (by omega) (by omega) (by omega) (by omega) (by omega)
  have e4 : (gI a 1 == a) = true := by rw [beq_iff_eq]; exact Gf.gI_one a (by omega) (by omega)
  go_enter Try.func4, Try.ntmps4
  go_wp2_with (first | (go_at_call 9; refine (new_any _).mono ?_; rintro e w' ⟨rfl, rfl⟩) | (go_at_call 10; refine (anchor_any _ _ hf).mono ?_; rintro e w' ⟨rfl, k, rfl⟩) | (go_at_call 13; refine (mul_any _ _ _ (by omega) (by omega) (by omega) (by omega) _ (by exact hf.of fun _ => rfl)).mono ?_; rintro e w' ⟨rfl, k, rfl⟩))
  go_ret
  exact ⟨rfl, grown_new w _ _⟩
theorem gfField_walk (a b c : Int) (w0 : (Lit.int .u8 a).wf = true) (w1 : (Lit.int .u8 b).wf = true) (w2 : (Lit.int .u8 c).wf = true) (w : World) :
    Calls Try.prog 4 #[.int .u8 a, .int .u8 b, .int .u8 c] w fun e w' => e = .returned (.bool true) ∧ Grown w w' := by
  have ha := bounds_u8 w0
  have hb := bounds_u8 w1
  have hc := bounds_u8 w2
  by_cases h3 : gI a b = 0
  · by_cases h1 : a = 0
    · exact gfField_p a b c ha hb hc w (by simp [h3]) (by simp [h1])
    · have h2 : b = 0 := by
        by_cases h2 : b = 0
        · exact h2
        · exact absurd h3 (Gf.gI_ne a b (by omega) (by omega))
      exact gfField_q a b c ha hb hc w (by simp [h3]) (by simp [h1]) (by simp [h2])
  · exact gfField_r a b c ha hb hc w (by simp [h3])

end Go.Proofs.Ytmjmjccfhnckiaa
