/-
  The walks of package gf, the leaves first: what each call answers, of a field whose tables lie in a block.
-/
import Derived.Test.YtdjknaafefnlcaaDoorRows
import Derived.Test.YtdjknaafefnlcaaDoorGfMath
import Derived.WalkKit
import Derived.WalkSpells
import Derived.WalkLawsBesides
import Derived.Deep.QuietTactic
import Derived.BigQuiet
namespace Go.Proofs.YtdjknaafefnlcaaDoor
open Go.RowKit
open Gf (eI lI gI dI pI)

theorem ret_int {k : IntKind} {a b : Int} (h : a = b) : Ending.returned (.int k a) = .returned (.int k b) := by rw [h]
theorem tx_hi (a : Int) (h0 : 0 ≤ a) (h1 : a < 256) (h : (bits BinOp.and IntKind.u8 a 128 != 0) = true) : bits BinOp.xor IntKind.u8 (a * 2 % 256) 29 = ((Gf.tx a.toNat : Nat) : Int) := by
  obtain ⟨n, rfl⟩ := Int.eq_ofNat_of_zero_le h0
  rw [u8_and _ _ h0 h1 (by decide) (by decide)] at h
  rw [u8_xor _ _ (by omega) (by omega) (by decide) (by decide)]
  have h' : ¬ Nat.land n 128 = 0 := by
    simp at h; exact h
  simp only [Int.toNat_natCast]
  unfold Gf.tx
  rw [if_neg h', show ((n : Int) * 2 % 256).toNat = n * 2 % 256 from by omega]
  rfl
theorem tx_lo (a : Int) (h0 : 0 ≤ a) (h1 : a < 256) (h : (bits BinOp.and IntKind.u8 a 128 != 0) = false) : a * 2 % 256 = ((Gf.tx a.toNat : Nat) : Int) := by
  obtain ⟨n, rfl⟩ := Int.eq_ofNat_of_zero_le h0
  rw [u8_and _ _ h0 h1 (by decide) (by decide)] at h
  have h' : Nat.land n 128 = 0 := by
    simp at h; exact h
  simp only [Int.toNat_natCast]
  unfold Gf.tx
  rw [if_pos h']
  omega

set_option maxHeartbeats 400000 in
theorem timesX_any (a : Int) (h0 : 0 ≤ a) (h1 : a < 256) (w : World) :
    Calls Tryd.prog 59 #[.int .u8 a] w fun e w' => e = .returned (.int .u8 (Gf.tx a.toNat : Nat)) ∧ w' = w := by
  go_enter Tryd.func59, Tryd.ntmps59
  go_wp2
  all_goals go_ret
  · exact ⟨ret_int (tx_hi a h0 h1 ‹_›), rfl⟩
  · exact ⟨ret_int (tx_lo a h0 h1 ‹_›), rfl⟩

/-- a field's tables lie in block b -/
def FldAt (w : World) (b : Nat) : Prop :=
  (∀ n : Nat, n < 255 → w.cell? ⟨b, n, none⟩ = some (.int .u8 ((Gf.ex n : Nat) : Int))) ∧
  (∀ a : Nat, a < 256 → w.cell? ⟨b, 255 + a, none⟩ = some (.int .u8 ((Gf.lg a : Nat) : Int)))
theorem FldAt.of {w w' : World} {b : Nat} (h : FldAt w b) (hc : ∀ o, w'.cell? ⟨b, o, none⟩ = w.cell? ⟨b, o, none⟩) : FldAt w' b :=
  ⟨fun n hn => (hc n).trans (h.1 n hn), fun a ha => (hc (255 + a)).trans (h.2 a ha)⟩
theorem FldAt.drewN {w : World} {b : Nat} (h : FldAt w b) (k : Nat) : FldAt (w.drewN k) b := h.of fun _ => rfl
theorem FldAt.log {w : World} {b : Nat} (h : FldAt w b) (a : Int) (h0 : 0 ≤ a) (h1 : a < 256) : w.cell? ⟨b, 255 + a.toNat, none⟩ = some (.int .u8 (lI a)) := h.2 a.toNat (by omega)

theorem tmod_255 (n : Int) : -255 < n.tmod 255 ∧ n.tmod 255 < 255 ∧ (n.tmod 255 < 0 → n % 255 = n.tmod 255 + 255) ∧ (0 ≤ n.tmod 255 → n % 255 = n.tmod 255) := by
  have h := Int.tmod_eq_emod (a := n) (b := 255)
  have h1 := Int.emod_nonneg n (b := 255) (by decide)
  have h2 := Int.emod_lt_of_pos n (b := 255) (by decide)
  split at h <;> simp at h <;> omega

set_option maxHeartbeats 400000 in
theorem exp_any (b : Nat) (n : Int) (w : World) (hf : FldAt w b) :
    Calls Tryd.prog 77 #[.pointer (some ⟨b, 0, none⟩), .int .i64 n] w fun e w' => e = .returned (.int .u8 (eI n)) ∧ w' = w := by
  obtain ⟨g1, g2, g3, g4⟩ := tmod_255 n
  by_cases hneg : n.tmod 255 < 0
  · have hc := hf.1 (n.tmod 255 + 255).toNat (by omega)
    have H : Hid (n % 255 = n.tmod 255 + 255) := g3 hneg
    clear g3 g4 hf
    go_enter Tryd.func77, Tryd.ntmps77
    go_wp2
    go_ret
    exact ⟨ret_int (by unfold eI; rw [H.out]), rfl⟩
  · have hc := hf.1 (n.tmod 255).toNat (by omega)
    have H : Hid (n % 255 = n.tmod 255) := g4 (by omega)
    clear g3 g4 hf
    go_enter Tryd.func77, Tryd.ntmps77
    go_wp2
    go_ret
    exact ⟨ret_int (by unfold eI; rw [H.out]), rfl⟩

theorem log_zero (b : Nat) (w : World) :
    Calls Tryd.prog 99 #[.pointer (some ⟨b, 0, none⟩), .int .u8 0] w fun e w' => e = .returned (.tuple #[.int .i64 0, .int .i64 16]) ∧ w' = w := by
  go_enter Tryd.func99, Tryd.ntmps99
  go_wp2
  go_ret2
  exact ⟨rfl, rfl⟩

theorem log_any (b : Nat) (a : Int) (h0 : 0 < a) (h1 : a < 256) (w : World) (hf : FldAt w b) :
    Calls Tryd.prog 99 #[.pointer (some ⟨b, 0, none⟩), .int .u8 a] w fun e w' => e = .returned (.tuple #[.int .i64 (lI a), .int .i64 0]) ∧ w' = w := by
  have hc := hf.log a (by omega) h1
  have hl := Gf.lI_bd a
  have hz : (a == 0) = false := by simp; omega
  clear hf
  go_enter Tryd.func99, Tryd.ntmps99
  go_wp2
  go_ret2
  exact ⟨rfl, rfl⟩

theorem mul_zero (b : Nat) (x y : Int) (h : x = 0 ∨ y = 0) (w : World) :
    Calls Tryd.prog 85 #[.pointer (some ⟨b, 0, none⟩), .int .u8 x, .int .u8 y] w fun e w' => e = .returned (.int .u8 0) ∧ w' = w := by
  by_cases hx : x = 0
  · subst hx
    clear h
    go_enter Tryd.func85, Tryd.ntmps85
    go_wp2
    go_ret
    exact ⟨rfl, rfl⟩
  · have hy : y = 0 := by omega
    subst hy
    have hz : (x == 0) = false := by simp [hx]
    clear h hx
    go_enter Tryd.func85, Tryd.ntmps85
    go_wp2
    go_ret
    exact ⟨rfl, rfl⟩

theorem gI_of_logs (x y : Int) (hx0 : 0 < x) (hx1 : x < 256) (hy0 : 0 < y) (hy1 : y < 256) : eI (lI x + lI y) = gI x y := by
  rw [← Gf.gI_eI, Gf.eI_lI x hx0 hx1, Gf.eI_lI y hy0 hy1]
set_option maxHeartbeats 400000 in
theorem mul_some (b : Nat) (x y : Int) (hx0 : 0 < x) (hx1 : x < 256) (hy0 : 0 < y) (hy1 : y < 256) (w : World) (hf : FldAt w b) :
    Calls Tryd.prog 85 #[.pointer (some ⟨b, 0, none⟩), .int .u8 x, .int .u8 y] w fun e w' => e = .returned (.int .u8 (gI x y)) ∧ ∃ k, w' = w.drewN k := by
  have hcx := hf.log x (by omega) hx1
  have hcy := hf.log y (by omega) hy1
  have hlx := Gf.lI_bd x
  have hly := Gf.lI_bd y
  have hzx : (x == 0) = false := by simp; omega
  have hzy : (y == 0) = false := by simp; omega
  go_enter Tryd.func85, Tryd.ntmps85
  go_wp2
  go_quiet ((go_at_call 77; exact Calls.quiet_of_same (exp_any _ _ _ (hf.of (fun _ => rfl)))))
  go_wp2
  go_ret
  exact ⟨ret_int (gI_of_logs x y hx0 hx1 hy0 hy1), _, rfl⟩

/-- Mul, of all elements -/
theorem mul_any (b : Nat) (x y : Int) (hx0 : 0 ≤ x) (hx1 : x < 256) (hy0 : 0 ≤ y) (hy1 : y < 256) (w : World) (hf : FldAt w b) :
    Calls Tryd.prog 85 #[.pointer (some ⟨b, 0, none⟩), .int .u8 x, .int .u8 y] w fun e w' => e = .returned (.int .u8 (gI x y)) ∧ ∃ k, w' = w.drewN k := by
  by_cases h : x = 0 ∨ y = 0
  · refine (mul_zero b x y h w).mono ?_
    rintro e w' ⟨rfl, rfl⟩
    refine ⟨ret_int ?_, 0, rfl⟩
    rcases h with rfl | rfl
    · rw [Gf.gI_zero_left]
    · rw [Gf.gI_zero_right]
  · exact mul_some b x y (by omega) hx1 (by omega) hy1 w hf

theorem div_zero (b : Nat) (x : Int) (w : World) :
    Calls Tryd.prog 98 #[.pointer (some ⟨b, 0, none⟩), .int .u8 x, .int .u8 0] w fun e w' => e = .returned (.tuple #[.int .u8 0, .int .i64 16]) ∧ w' = w := by
  go_enter Tryd.func98, Tryd.ntmps98
  go_wp2
  go_ret2
  exact ⟨rfl, rfl⟩

theorem div_null (b : Nat) (y : Int) (hy0 : 0 < y) (w : World) :
    Calls Tryd.prog 98 #[.pointer (some ⟨b, 0, none⟩), .int .u8 0, .int .u8 y] w fun e w' => e = .returned (.tuple #[.int .u8 0, .int .i64 0]) ∧ w' = w := by
  have hzy : (y == 0) = false := by simp; omega
  go_enter Tryd.func98, Tryd.ntmps98
  go_wp2
  go_ret2
  exact ⟨rfl, rfl⟩

set_option maxHeartbeats 400000 in
theorem div_some (b : Nat) (x y : Int) (hx0 : 0 < x) (hx1 : x < 256) (hy0 : 0 < y) (hy1 : y < 256) (w : World) (hf : FldAt w b) :
    Calls Tryd.prog 98 #[.pointer (some ⟨b, 0, none⟩), .int .u8 x, .int .u8 y] w fun e w' => e = .returned (.tuple #[.int .u8 (eI (lI x - lI y)), .int .i64 0]) ∧ ∃ k, w' = w.drewN k := by
  have hcx := hf.log x (by omega) hx1
  have hcy := hf.log y (by omega) hy1
  have hlx := Gf.lI_bd x
  have hly := Gf.lI_bd y
  have hzx : (x == 0) = false := by simp; omega
  have hzy : (y == 0) = false := by simp; omega
  go_enter Tryd.func98, Tryd.ntmps98
  go_wp2
  go_quiet ((go_at_call 77; exact Calls.quiet_of_same (exp_any _ _ _ (hf.of (fun _ => rfl)))))
  go_wp2
  go_ret2
  exact ⟨rfl, _, rfl⟩

/-- Div, of all elements by all but 0 -/
theorem div_any (b : Nat) (x y : Int) (hx0 : 0 ≤ x) (hx1 : x < 256) (hy0 : 0 < y) (hy1 : y < 256) (w : World) (hf : FldAt w b) :
    Calls Tryd.prog 98 #[.pointer (some ⟨b, 0, none⟩), .int .u8 x, .int .u8 y] w fun e w' => e = .returned (.tuple #[.int .u8 (dI x y), .int .i64 0]) ∧ ∃ k, w' = w.drewN k := by
  by_cases h : x = 0
  · subst h
    refine (div_null b y hy0 w).mono ?_
    rintro e w' ⟨rfl, rfl⟩
    exact ⟨rfl, 0, rfl⟩
  · have := div_some b x y (by omega) hx1 hy0 hy1 w hf
    unfold dI
    rw [if_neg h]
    exact this

theorem inv_zero (b : Nat) (w : World) :
    Calls Tryd.prog 82 #[.pointer (some ⟨b, 0, none⟩), .int .u8 0] w fun e w' => e = .returned (.tuple #[.int .u8 0, .int .i64 16]) ∧ w' = w := by
  go_enter Tryd.func82, Tryd.ntmps82
  go_wp2_with (go_at_call 98; refine (div_zero _ _ _).mono ?_; rintro e w' ⟨rfl, rfl⟩)
  go_ret2
  exact ⟨rfl, rfl⟩

theorem inv_any (b : Nat) (y : Int) (hy0 : 0 < y) (hy1 : y < 256) (w : World) (hf : FldAt w b) :
    Calls Tryd.prog 82 #[.pointer (some ⟨b, 0, none⟩), .int .u8 y] w fun e w' => e = .returned (.tuple #[.int .u8 (dI 1 y), .int .i64 0]) ∧ ∃ k, w' = w.drewN k := by
  go_enter Tryd.func82, Tryd.ntmps82
  go_wp2_with (go_at_call 98; refine (div_any _ _ _ (by decide) (by decide) hy0 hy1 _ hf).mono ?_; rintro e w' ⟨rfl, k, rfl⟩)
  go_ret2
  exact ⟨rfl, _, rfl⟩


end Go.Proofs.YtdjknaafefnlcaaDoor
