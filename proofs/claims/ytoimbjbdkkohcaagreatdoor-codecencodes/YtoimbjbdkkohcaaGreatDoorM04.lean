/-
  Texts of one family, one behind another: GfW1, GfW2, GfW3, PolyMath, RsMath, RsW1, RsW2.
-/
import Derived.Test.YtoimbjbdkkohcaaGreatDoorRows
import Derived.Test.YtoimbjbdkkohcaaGreatDoorM03
import Derived.WalkKit
import Derived.WalkSpells
import Derived.WalkLawsBesides
import Derived.Deep.QuietTactic
import Derived.BigQuiet
import Derived.Test.YtoimbjbdkkohcaaGreatDoorM01
import Derived.Deep.MidRow
import Derived.Deep.RegionHeld3

/-
  The walks of package gf, the leaves first: what each call answers, of a field whose tables lie in a block.
-/
namespace Go.Proofs.YtoimbjbdkkohcaaGreatDoor
open Go.RowKit
open Gf (eI lI gI dI pI)

theorem ret_int {k : IntKind} {a b : Int} (h : a = b) : Ending.returned (.int k a) = .returned (.int k b) := by rw [h]
theorem tx_hi (a : Int) (h0 : 0 ≤ a) (h1 : a < 256) (h : (bits BinOp.and IntKind.u8 a 128 != 0) = true) : bits BinOp.xor IntKind.u8 (a * 2 % 256) 29 = ((Gf.tx a.toNat : Nat) : Int) := by
  obtain ⟨n, rfl⟩ := Int.eq_ofNat_of_zero_le h0
  rw [u8_and _ _ h0 h1 (by decide) (by decide)] at h
  rw [u8_xor _ _ (by omega) (by omega) (by decide) (by decide)]
  have h' : ¬ Nat.land n 128 = 0 := by
    simp at h; exact h
  simp only [Int.toNat_natCast]
  unfold Gf.tx
  rw [if_neg h', show ((n : Int) * 2 % 256).toNat = n * 2 % 256 from by omega]
  rfl
theorem tx_lo (a : Int) (h0 : 0 ≤ a) (h1 : a < 256) (h : (bits BinOp.and IntKind.u8 a 128 != 0) = false) : a * 2 % 256 = ((Gf.tx a.toNat : Nat) : Int) := by
  obtain ⟨n, rfl⟩ := Int.eq_ofNat_of_zero_le h0
  rw [u8_and _ _ h0 h1 (by decide) (by decide)] at h
  have h' : Nat.land n 128 = 0 := by
    simp at h; exact h
  simp only [Int.toNat_natCast]
  unfold Gf.tx
  rw [if_pos h']
  omega

set_option maxHeartbeats 400000 in
theorem timesX_any (a : Int) (h0 : 0 ≤ a) (h1 : a < 256) (w : World) :
    Calls Tryz.prog 59 #[.int .u8 a] w fun e w' => e = .returned (.int .u8 (Gf.tx a.toNat : Nat)) ∧ w' = w := by
  go_enter Tryz.func59, Tryz.ntmps59
  go_wp2
  all_goals go_ret
  · exact ⟨ret_int (tx_hi a h0 h1 ‹_›), rfl⟩
  · exact ⟨ret_int (tx_lo a h0 h1 ‹_›), rfl⟩

/-- a field's tables lie in block b -/
def FldAt (w : World) (b : Nat) : Prop :=
  (∀ n : Nat, n < 255 → w.cell? ⟨b, n, none⟩ = some (.int .u8 ((Gf.ex n : Nat) : Int))) ∧
  (∀ a : Nat, a < 256 → w.cell? ⟨b, 255 + a, none⟩ = some (.int .u8 ((Gf.lg a : Nat) : Int)))
theorem FldAt.of {w w' : World} {b : Nat} (h : FldAt w b) (hc : ∀ o, w'.cell? ⟨b, o, none⟩ = w.cell? ⟨b, o, none⟩) : FldAt w' b :=
  ⟨fun n hn => (hc n).trans (h.1 n hn), fun a ha => (hc (255 + a)).trans (h.2 a ha)⟩
theorem FldAt.drewN {w : World} {b : Nat} (h : FldAt w b) (k : Nat) : FldAt (w.drewN k) b := h.of fun _ => rfl
theorem FldAt.log {w : World} {b : Nat} (h : FldAt w b) (a : Int) (h0 : 0 ≤ a) (h1 : a < 256) : w.cell? ⟨b, 255 + a.toNat, none⟩ = some (.int .u8 (lI a)) := h.2 a.toNat (by omega)

theorem tmod_255 (n : Int) : -255 < n.tmod 255 ∧ n.tmod 255 < 255 ∧ (n.tmod 255 < 0 → n % 255 = n.tmod 255 + 255) ∧ (0 ≤ n.tmod 255 → n % 255 = n.tmod 255) := by
  have h := Int.tmod_eq_emod (a := n) (b := 255)
  have h1 := Int.emod_nonneg n (b := 255) (by decide)
  have h2 := Int.emod_lt_of_pos n (b := 255) (by decide)
  split at h <;> simp at h <;> omega

set_option maxHeartbeats 400000 in
theorem exp_any (b : Nat) (n : Int) (w : World) (hf : FldAt w b) :
    Calls Tryz.prog 83 #[.pointer (some ⟨b, 0, none⟩), .int .i64 n] w fun e w' => e = .returned (.int .u8 (eI n)) ∧ w' = w := by
  obtain ⟨g1, g2, g3, g4⟩ := tmod_255 n
  by_cases hneg : n.tmod 255 < 0
  · have hc := hf.1 (n.tmod 255 + 255).toNat (by omega)
    have H : Hid (n % 255 = n.tmod 255 + 255) := g3 hneg
    clear g3 g4 hf
    go_enter Tryz.func83, Tryz.ntmps83
    go_wp2
    go_ret
    exact ⟨ret_int (by unfold eI; rw [H.out]), rfl⟩
  · have hc := hf.1 (n.tmod 255).toNat (by omega)
    have H : Hid (n % 255 = n.tmod 255) := g4 (by omega)
    clear g3 g4 hf
    go_enter Tryz.func83, Tryz.ntmps83
    go_wp2
    go_ret
    exact ⟨ret_int (by unfold eI; rw [H.out]), rfl⟩

theorem log_zero (b : Nat) (w : World) :
    Calls Tryz.prog 106 #[.pointer (some ⟨b, 0, none⟩), .int .u8 0] w fun e w' => e = .returned (.tuple #[.int .i64 0, .int .i64 16]) ∧ w' = w := by
  go_enter Tryz.func106, Tryz.ntmps106
  go_wp2
  go_ret2
  exact ⟨rfl, rfl⟩

theorem log_any (b : Nat) (a : Int) (h0 : 0 < a) (h1 : a < 256) (w : World) (hf : FldAt w b) :
    Calls Tryz.prog 106 #[.pointer (some ⟨b, 0, none⟩), .int .u8 a] w fun e w' => e = .returned (.tuple #[.int .i64 (lI a), .int .i64 0]) ∧ w' = w := by
  have hc := hf.log a (by omega) h1
  have hl := Gf.lI_bd a
  have hz : (a == 0) = false := by simp; omega
  clear hf
  go_enter Tryz.func106, Tryz.ntmps106
  go_wp2
  go_ret2
  exact ⟨rfl, rfl⟩

theorem mul_zero (b : Nat) (x y : Int) (h : x = 0 ∨ y = 0) (w : World) :
    Calls Tryz.prog 92 #[.pointer (some ⟨b, 0, none⟩), .int .u8 x, .int .u8 y] w fun e w' => e = .returned (.int .u8 0) ∧ w' = w := by
  by_cases hx : x = 0
  · subst hx
    clear h
    go_enter Tryz.func92, Tryz.ntmps92
    go_wp2
    go_ret
    exact ⟨rfl, rfl⟩
  · have hy : y = 0 := by omega
    subst hy
    have hz : (x == 0) = false := by simp [hx]
    clear h hx
    go_enter Tryz.func92, Tryz.ntmps92
    go_wp2
    go_ret
    exact ⟨rfl, rfl⟩

theorem gI_of_logs (x y : Int) (hx0 : 0 < x) (hx1 : x < 256) (hy0 : 0 < y) (hy1 : y < 256) : eI (lI x + lI y) = gI x y := by
  rw [← Gf.gI_eI, Gf.eI_lI x hx0 hx1, Gf.eI_lI y hy0 hy1]
set_option maxHeartbeats 400000 in
theorem mul_some (b : Nat) (x y : Int) (hx0 : 0 < x) (hx1 : x < 256) (hy0 : 0 < y) (hy1 : y < 256) (w : World) (hf : FldAt w b) :
    Calls Tryz.prog 92 #[.pointer (some ⟨b, 0, none⟩), .int .u8 x, .int .u8 y] w fun e w' => e = .returned (.int .u8 (gI x y)) ∧ ∃ k, w' = w.drewN k := by
  have hcx := hf.log x (by omega) hx1
  have hcy := hf.log y (by omega) hy1
  have hlx := Gf.lI_bd x
  have hly := Gf.lI_bd y
  have hzx : (x == 0) = false := by simp; omega
  have hzy : (y == 0) = false := by simp; omega
  go_enter Tryz.func92, Tryz.ntmps92
  go_wp2
  go_quiet ((go_at_call 83; exact Calls.quiet_of_same (exp_any _ _ _ (hf.of (fun _ => rfl)))))
  go_wp2
  go_ret
  exact ⟨ret_int (gI_of_logs x y hx0 hx1 hy0 hy1), _, rfl⟩

/-- Mul, of all elements -/
theorem mul_any (b : Nat) (x y : Int) (hx0 : 0 ≤ x) (hx1 : x < 256) (hy0 : 0 ≤ y) (hy1 : y < 256) (w : World) (hf : FldAt w b) :
    Calls Tryz.prog 92 #[.pointer (some ⟨b, 0, none⟩), .int .u8 x, .int .u8 y] w fun e w' => e = .returned (.int .u8 (gI x y)) ∧ ∃ k, w' = w.drewN k := by
  by_cases h : x = 0 ∨ y = 0
  · refine (mul_zero b x y h w).mono ?_
    rintro e w' ⟨rfl, rfl⟩
    refine ⟨ret_int ?_, 0, rfl⟩
    rcases h with rfl | rfl
    · rw [Gf.gI_zero_left]
    · rw [Gf.gI_zero_right]
  · exact mul_some b x y (by omega) hx1 (by omega) hy1 w hf

theorem div_zero (b : Nat) (x : Int) (w : World) :
    Calls Tryz.prog 105 #[.pointer (some ⟨b, 0, none⟩), .int .u8 x, .int .u8 0] w fun e w' => e = .returned (.tuple #[.int .u8 0, .int .i64 16]) ∧ w' = w := by
  go_enter Tryz.func105, Tryz.ntmps105
  go_wp2
  go_ret2
  exact ⟨rfl, rfl⟩

theorem div_null (b : Nat) (y : Int) (hy0 : 0 < y) (w : World) :
    Calls Tryz.prog 105 #[.pointer (some ⟨b, 0, none⟩), .int .u8 0, .int .u8 y] w fun e w' => e = .returned (.tuple #[.int .u8 0, .int .i64 0]) ∧ w' = w := by
  have hzy : (y == 0) = false := by simp; omega
  go_enter Tryz.func105, Tryz.ntmps105
  go_wp2
  go_ret2
  exact ⟨rfl, rfl⟩

set_option maxHeartbeats 400000 in
theorem div_some (b : Nat) (x y : Int) (hx0 : 0 < x) (hx1 : x < 256) (hy0 : 0 < y) (hy1 : y < 256) (w : World) (hf : FldAt w b) :
    Calls Tryz.prog 105 #[.pointer (some ⟨b, 0, none⟩), .int .u8 x, .int .u8 y] w fun e w' => e = .returned (.tuple #[.int .u8 (eI (lI x - lI y)), .int .i64 0]) ∧ ∃ k, w' = w.drewN k := by
  have hcx := hf.log x (by omega) hx1
  have hcy := hf.log y (by omega) hy1
  have hlx := Gf.lI_bd x
  have hly := Gf.lI_bd y
  have hzx : (x == 0) = false := by simp; omega
  have hzy : (y == 0) = false := by simp; omega
  go_enter Tryz.func105, Tryz.ntmps105
  go_wp2
  go_quiet ((go_at_call 83; exact Calls.quiet_of_same (exp_any _ _ _ (hf.of (fun _ => rfl)))))
  go_wp2
  go_ret2
  exact ⟨rfl, _, rfl⟩

/-- Div, of all elements by all but 0 -/
theorem div_any (b : Nat) (x y : Int) (hx0 : 0 ≤ x) (hx1 : x < 256) (hy0 : 0 < y) (hy1 : y < 256) (w : World) (hf : FldAt w b) :
    Calls Tryz.prog 105 #[.pointer (some ⟨b, 0, none⟩), .int .u8 x, .int .u8 y] w fun e w' => e = .returned (.tuple #[.int .u8 (dI x y), .int .i64 0]) ∧ ∃ k, w' = w.drewN k := by
  by_cases h : x = 0
  · subst h
    refine (div_null b y hy0 w).mono ?_
    rintro e w' ⟨rfl, rfl⟩
    exact ⟨rfl, 0, rfl⟩
  · have := div_some b x y (by omega) hx1 hy0 hy1 w hf
    unfold dI
    rw [if_neg h]
    exact this

theorem inv_zero (b : Nat) (w : World) :
    Calls Tryz.prog 89 #[.pointer (some ⟨b, 0, none⟩), .int .u8 0] w fun e w' => e = .returned (.tuple #[.int .u8 0, .int .i64 16]) ∧ w' = w := by
  go_enter Tryz.func89, Tryz.ntmps89
  go_wp2_with (go_at_call 105; refine (div_zero _ _ _).mono ?_; rintro e w' ⟨rfl, rfl⟩)
  go_ret2
  exact ⟨rfl, rfl⟩

theorem inv_any (b : Nat) (y : Int) (hy0 : 0 < y) (hy1 : y < 256) (w : World) (hf : FldAt w b) :
    Calls Tryz.prog 89 #[.pointer (some ⟨b, 0, none⟩), .int .u8 y] w fun e w' => e = .returned (.tuple #[.int .u8 (dI 1 y), .int .i64 0]) ∧ ∃ k, w' = w.drewN k := by
  go_enter Tryz.func89, Tryz.ntmps89
  go_wp2_with (go_at_call 105; refine (div_any _ _ _ (by decide) (by decide) hy0 hy1 _ hf).mono ?_; rintro e w' ⟨rfl, k, rfl⟩)
  go_ret2
  exact ⟨rfl, _, rfl⟩


end Go.Proofs.YtoimbjbdkkohcaaGreatDoor

/-
  The walk of gf.New: the tables are filled, a round a power.
-/
namespace Go.Proofs.YtoimbjbdkkohcaaGreatDoor
open Go.RowKit
open Gf (eI lI gI dI pI)

/-- the cells behind k rounds -/
def stage : Nat → Array Value
  | 0 => Array.replicate 511 (.int .u8 0)
  | k + 1 => ((stage k).setIfInBounds k (.int .u8 ((Gf.ex k : Nat) : Int))).setIfInBounds (255 + Gf.ex k) (.int .u8 (k : Int))
theorem stage_size (k : Nat) : (stage k).size = 511 := by
  induction k with
  | zero => simp [stage]
  | succ k ih => simp [stage, ih]
theorem stage_cell (k o : Nat) (h : o < 511) : ∃ v, (stage k)[o]? = some v :=
  ⟨(stage k)[o]'(by rw [stage_size]; exact h), Array.getElem?_eq_getElem (by rw [stage_size]; exact h)⟩
theorem stage_exp (k n : Nat) (hn : n < k) (hk : k ≤ 255) : (stage k)[n]? = some (.int .u8 ((Gf.ex n : Nat) : Int)) := by
  induction k with
  | zero => omega
  | succ k ih =>
    simp only [stage]
    rw [Array.getElem?_setIfInBounds_ne (by omega)]
    by_cases e : n = k
    · subst e; rw [Array.getElem?_setIfInBounds_self_of_lt (by rw [stage_size]; omega)]
    · rw [Array.getElem?_setIfInBounds_ne (by omega)]; exact ih (by omega) (by omega)
theorem stage_log (k a : Nat) (ha : a < 256) (hk : k ≤ 255) : (stage k)[255 + a]? = some (.int .u8 ((Gf.lgT k a : Nat) : Int)) := by
  induction k with
  | zero => rw [stage, Array.getElem?_replicate, if_pos (by omega)]; rfl
  | succ k ih =>
    simp only [stage, Gf.lgT]
    by_cases e : a = Gf.ex k
    · rw [if_pos e, e, Array.getElem?_setIfInBounds_self_of_lt (by simp [stage_size]; have := Gf.ex_lt k; omega)]
    · rw [if_neg e, Array.getElem?_setIfInBounds_ne (by omega), Array.getElem?_setIfInBounds_ne (by omega)]; exact ih (by omega)
/-- the field that New makes -/
def fieldCells : Array Value := stage 255
theorem fldAt_new (w : World) (t : TypeId) : FldAt (w.alloc (.cells fieldCells t)) w.heap.size := by
  constructor
  · intro n hn
    rw [World.cell?_alloc_new]
    exact stage_exp 255 n hn (Nat.le_refl _)
  · intro a ha
    rw [World.cell?_alloc_new]
    exact stage_log 255 a ha (Nat.le_refl _)

theorem zero_field (w : World) : (zeroValue 124).run Tryz.prog w = .ok (.agg (stage 0)) w := by kernel_rfl
set_option maxRecDepth 100000 in
set_option maxHeartbeats 400000 in
theorem new_any (w : World) :
    Calls Tryz.prog 30 #[] w fun e w' => e = .returned (.pointer (some ⟨w.heap.size, 0, none⟩)) ∧ w' = w.alloc (.cells fieldCells 124) := by
  have hz := zero_field
  go_enter Tryz.func30, Tryz.ntmps30
  go_wp2
  go_loopw [2, 6] (fun p i wr => ∃ k : Nat, k ≤ 255 ∧ i = .int .i64 k ∧ p = .int .u8 ((Gf.ex k : Nat) : Int) ∧ wr = w.alloc (.cells (stage k) 124)) (fun _ i _ => 255 - (intOf i).toNat)
  case atStart => exact ⟨0, by omega, rfl, rfl, rfl⟩
  case round =>
    obtain ⟨k, hk, rfl, rfl, rfl⟩ := hrel
    by_cases hlt : k < 255
    · have he := Gf.ex_lt k
      obtain ⟨v1, hv1⟩ := stage_cell k k (by omega)
      obtain ⟨v2, hv2⟩ : ∃ v, ((stage k).setIfInBounds k (.int .u8 ((Gf.ex k : Nat) : Int)))[255 + Gf.ex k]? = some v := by
        rw [Array.getElem?_setIfInBounds_ne (by omega)]; exact stage_cell k _ (by omega)
      go_wp2_with (go_at_call 59; refine (timesX_any _ (by omega) (by omega) _).mono ?_; rintro e w' ⟨rfl, rfl⟩)
      go_roundw
      case rel => exact ⟨k + 1, by omega, by go_num, rfl, rfl⟩
      case measure => simp [intOf]; omega
    · have : k = 255 := by omega
      subst this
      go_wp2
      go_ret
      exact ⟨rfl, rfl⟩

end Go.Proofs.YtoimbjbdkkohcaaGreatDoor

/-
  The walks of the document's own answers: products by division, quotients, powers.
-/
namespace Go.Proofs.YtoimbjbdkkohcaaGreatDoor
open Go.RowKit
open Gf (eI lI gI dI pI)

theorem i64_xor_nat (a b : Nat) (ha : a < 65536) (hb : b < 65536) : bits .xor .i64 (a : Int) (b : Int) = ((a ^^^ b : Nat) : Int) := by
  have hx : a ^^^ b < 2 ^ 16 := Nat.xor_lt_two_pow (by simpa using ha) (by simpa using hb)
  show IntKind.i64.wrap ((BitVec.ofInt 64 (a : Int) ^^^ BitVec.ofInt 64 (b : Int)).toNat : Int) = _
  rw [BitVec.toNat_xor, ofInt_u64 a (by omega), ofInt_u64 b (by omega)]
  simp [IntKind.wrap, IntKind.bits, IntKind.signed]
  omega
theorem and1_eq (y : Nat) (h : y < 256) : (bits .and .u8 (y : Int) 1 == 1) = decide (y % 2 = 1) := by
  have := u8_and_nat y 1 h (by decide)
  rw [show ((1 : Nat) : Int) = 1 from rfl] at this
  rw [this, nat_mask1]
  by_cases e : y % 2 = 1
  · simp [e]
  · have : y % 2 = 0 := by omega
    simp [this]

theorem l1_y (B k y : Nat) (h : Hid (y = B / 2 ^ k)) : Hid (y / 2 = B / 2 ^ (k + 1)) := by
  have := h.out; show _ = _; rw [this, Nat.div_div_eq_div_mul, Nat.pow_succ]
theorem l1_z (A k z : Nat) (h : Hid (z = A * 2 ^ k)) : Hid (z * 2 = A * 2 ^ (k + 1)) := by
  have := h.out; show _ = _; rw [this, Nat.pow_succ, Nat.mul_assoc]
theorem l1_q1 (A B k y q z : Nat) (hy : Hid (y = B / 2 ^ k)) (hq : Hid (q = Gf.mp A B k)) (hz : Hid (z = A * 2 ^ k)) (h : y % 2 = 1) : Hid (q ^^^ z = Gf.mp A B (k + 1)) := by
  show _ = _; rw [Gf.mp, ← hy.out, if_pos h, hq.out, hz.out]
theorem l1_q0 (A B k y q : Nat) (hy : Hid (y = B / 2 ^ k)) (hq : Hid (q = Gf.mp A B k)) (h : ¬ y % 2 = 1) : Hid (q = Gf.mp A B (k + 1)) := by
  show _ = _; rw [Gf.mp, ← hy.out, if_neg h, hq.out]
theorem l1_qb (A B k q : Nat) (hA : A < 256) (hk : k ≤ 8) (hq : Hid (q = Gf.mp A B k)) : q < 65536 := by
  rw [hq.out]; exact Nat.lt_of_lt_of_le (Gf.mp_lt A B k hA) (Nat.pow_le_pow_right (n := 2) (i := 8 + k) (j := 16) (by decide) (by omega))
theorem l1_zb (A k z : Nat) (hA : A < 256) (hk : k ≤ 8) (hz : Hid (z = A * 2 ^ k)) : z < 65536 := by
  rw [hz.out]
  have h1 : 2 ^ k ≤ 2 ^ 8 := Nat.pow_le_pow_right (by decide) hk
  have h2 : A * 2 ^ k ≤ 255 * 2 ^ 8 := Nat.mul_le_mul (by omega) h1
  omega
theorem l2_1 (P m q d : Nat) (hm : 8 ≤ m) (hm' : m ≤ 14) (hq : Hid (q = Gf.mr P (14 - m))) (hd : Hid (d = 2 ^ m)) (h : q / d % 2 = 1) : Hid (q ^^^ (285 * d / 256) = Gf.mr P (14 - (m - 1))) := by
  show _ = _
  rw [show 14 - (m - 1) = (14 - m) + 1 from by omega, Gf.mr, ← hq.out, show 14 - (14 - m) = m from by omega, ← hd.out, if_pos h]
theorem l2_0 (P m q d : Nat) (hm : 8 ≤ m) (hm' : m ≤ 14) (hq : Hid (q = Gf.mr P (14 - m))) (hd : Hid (d = 2 ^ m)) (h : ¬ q / d % 2 = 1) : Hid (q = Gf.mr P (14 - (m - 1))) := by
  show _ = _
  rw [show 14 - (m - 1) = (14 - m) + 1 from by omega, Gf.mr, ← hq.out, show 14 - (14 - m) = m from by omega, ← hd.out, if_neg h]
theorem l2_qb (P j q : Nat) (hP : P < 65536) (hq : Hid (q = Gf.mr P j)) : q < 65536 := by
  rw [hq.out]; exact Gf.mr_lt P j hP
theorem l3_d (c d : Nat) (h : Hid (d = 2 ^ c)) : Hid (d * 2 = 2 ^ (c + 1)) := by
  have := h.out; show _ = _; rw [this, Nat.pow_succ]
theorem l3_b (c d m : Nat) (hm : m ≤ 14) (hc : c ≤ m) (h : Hid (d = 2 ^ c)) : 0 < d ∧ d ≤ 16384 := by
  have h1 : 2 ^ c ≤ 2 ^ 14 := Nat.pow_le_pow_right (by decide) (by omega)
  have h2 := Nat.two_pow_pos c
  rw [h.out]; omega

set_option maxRecDepth 100000 in
set_option maxHeartbeats 1000000 in
theorem refMul_nat (A B : Nat) (hA : A < 256) (hB : B < 256) (w : World) :
    Calls Tryz.prog 53 #[.int .u8 (A : Int), .int .u8 (B : Int)] w fun e w' => e = .returned (.int .u8 (Gf.rm A B : Nat)) ∧ w' = w := by
  go_enter Tryz.func53, Tryz.ntmps53
  go_wp2
  go_loop [1, 5, 6, 7] (fun b p x i => ∃ k y q z : Nat, k ≤ 8 ∧ y < 256 ∧ q < 65536 ∧ z < 65536 ∧ Hid (y = B / 2 ^ k) ∧ Hid (q = Gf.mp A B k) ∧ Hid (z = A * 2 ^ k) ∧ i = .int .i64 k ∧ b = .int .u8 y ∧ p = .int .i64 q ∧ x = .int .i64 z) (fun _ _ _ i => 8 - (intOf i).toNat)
  case atStart => exact ⟨0, B, 0, A, by omega, hB, by omega, by omega, by simp [Hid], rfl, by simp [Hid], rfl, rfl, rfl, rfl⟩
  case round =>
    obtain ⟨k, y, q, z, hk, hy, hq, hz, Hy, Hq, Hz, rfl, rfl, rfl, rfl⟩ := hrel
    by_cases hlt : k < 8
    · have hb := and1_eq y hy
      have Hy' := l1_y B k y Hy
      have Hz' := l1_z A k z Hz
      have hz' := l1_zb A (k + 1) _ hA (by omega) Hz'
      by_cases hbit : y % 2 = 1
      · have hb1 : (bits .and .u8 (y : Int) 1 == 1) = true := by rw [hb]; simp [hbit]
        have Hq' := l1_q1 A B k y q z Hy Hq Hz hbit
        have hq' := l1_qb A B (k + 1) _ hA (by omega) Hq'
        have HX : Hid (bits .xor .i64 (q : Int) (z : Int) = ((q ^^^ z : Nat) : Int)) := i64_xor_nat q z hq hz
        clear hb
        go_wp2
        go_round
        case rel => exact ⟨k + 1, y / 2, q ^^^ z, z * 2, by omega, by omega, hq', hz', Hy', Hq', Hz', by go_num, by go_num, by rw [HX.out], by go_num⟩
        case measure => simp [intOf]; omega
      · have hb1 : (bits .and .u8 (y : Int) 1 == 1) = false := by rw [hb]; simp [hbit]
        have Hq' := l1_q0 A B k y q Hy Hq hbit
        clear hb
        go_wp2
        go_round
        case rel => exact ⟨k + 1, y / 2, q, z * 2, by omega, by omega, hq, hz', Hy', Hq', Hz', by go_num, by go_num, rfl, by go_num⟩
        case measure => simp [intOf]; omega
    · have hk8 : k = 8 := by omega
      subst hk8
      clear Hy Hz hlt
      obtain ⟨P, hP⟩ : ∃ P, P = Gf.mp A B 8 := ⟨_, rfl⟩
      have hPb : P < 65536 := by rw [hP, ← Hq.out]; exact hq
      have HP : Hid (P = Gf.mp A B 8) := hP
      have Hq0 : Hid (q = Gf.mr P (14 - 14)) := by show q = P; rw [hP]; exact Hq.out
      clear hP Hq
      go_wp2
      go_loop [5, 8] (fun p i => ∃ m q : Nat, 7 ≤ m ∧ m ≤ 14 ∧ q < 65536 ∧ Hid (q = Gf.mr P (14 - m)) ∧ i = .int .i64 m ∧ p = .int .i64 q) (fun _ i => (intOf i).toNat)
      case atStart => exact ⟨14, q, by omega, by omega, hq, Hq0, rfl, rfl⟩
      case round =>
        clear Hq0 hq
        obtain ⟨m, q, hm1, hm2, hq, Hq, rfl, rfl⟩ := hrel
        by_cases hlt : 8 ≤ m
        · go_wp2
          go_loop [9, 10] (fun bit c => ∃ e d : Nat, e ≤ m ∧ 0 < d ∧ d ≤ 16384 ∧ Hid (d = 2 ^ e) ∧ bit = .int .i64 d ∧ c = .int .i64 e) (fun _ c => m - (intOf c).toNat)
          case atStart => exact ⟨0, 1, by omega, by omega, by omega, rfl, rfl, rfl⟩
          case round =>
            obtain ⟨e, d, he, hd0, hd1, Hd, rfl, rfl⟩ := hrel
            by_cases hem : e < m
            · have Hd' := l3_d e d Hd
              have hd' := l3_b (e + 1) (d * 2) m hm2 (by omega) Hd'
              go_wp2
              go_round
              case rel => exact ⟨e + 1, d * 2, by omega, by omega, by omega, Hd', by go_num, by go_num⟩
              case measure => simp [intOf]; omega
            · have hee : e = m := by omega
              subst hee
              clear hem
              have hqd0 : (0 : Int) ≤ (q : Int) / (d : Int) := Int.ediv_nonneg (by omega) (by omega)
              have hqd1 : (q : Int) / (d : Int) < 65536 := by
                have h1 : q / d ≤ q := Nat.div_le_self q d
                have h2 : ((q / d : Nat) : Int) = (q : Int) / (d : Int) := Int.natCast_ediv q d
                omega
              have HQ : Hid (((q / d : Nat) : Int) = (q : Int) / (d : Int)) := Int.natCast_ediv q d
              by_cases hbit : q / d % 2 = 1
              · have Hq' := l2_1 P e q d hlt hm2 Hq Hd hbit
                have hq' := l2_qb P _ _ hPb Hq'
                have hx : 285 * d / 256 < 65536 := by omega
                have HX : Hid (bits .xor .i64 (q : Int) ((285 * d / 256 : Nat) : Int) = ((q ^^^ (285 * d / 256) : Nat) : Int)) := i64_xor_nat q _ hq hx
                have hb1 : ((q : Int) / (d : Int) % 2 == 1) = true := by have h1 := HQ.out; rw [beq_iff_eq, ← h1]; omega
                go_wp2
                go_round
                case rel => exact ⟨e - 1, q ^^^ (285 * d / 256), by omega, by omega, hq', Hq', by go_num, by rw [← HX.out]; go_num⟩
                case measure => simp [intOf]; omega
              · have Hq' := l2_0 P e q d hlt hm2 Hq Hd hbit
                have hb1 : ((q : Int) / (d : Int) % 2 == 1) = false := by have h1 := HQ.out; rw [beq_eq_false_iff_ne, ← h1]; omega
                go_wp2
                go_round
                case rel => exact ⟨e - 1, q, by omega, by omega, hq, Hq', by go_num, rfl⟩
                case measure => simp [intOf]; omega
        · have hm7 : m = 7 := by omega
          subst hm7
          go_wp2
          go_ret
          refine ⟨ret_int ?_, rfl⟩
          unfold Gf.rm
          rw [← HP.out, ← Hq.out]
          omega

/-- the document's product is the table's -/
theorem refMul_any (x y : Int) (hx0 : 0 ≤ x) (hx1 : x < 256) (hy0 : 0 ≤ y) (hy1 : y < 256) (w : World) :
    Calls Tryz.prog 53 #[.int .u8 x, .int .u8 y] w fun e w' => e = .returned (.int .u8 (gI x y)) ∧ w' = w := by
  obtain ⟨A, rfl⟩ := Int.eq_ofNat_of_zero_le hx0
  obtain ⟨B, rfl⟩ := Int.eq_ofNat_of_zero_le hy0
  refine (refMul_nat A B (by omega) (by omega) w).mono ?_
  rintro e w' ⟨rfl, rfl⟩
  refine ⟨ret_int ?_, rfl⟩
  rw [← Gf.rm_gI _ _ hx0 hx1 hy0 hy1]; simp


end Go.Proofs.YtoimbjbdkkohcaaGreatDoor

/-
  The plain mathematics of polynomials over the field of 256 elements: sums, products, values, division. No program is named here.
-/
namespace Go.Proofs.YtoimbjbdkkohcaaGreatDoor.Po
open Gf (gm gI pI)

/-- an element -/
abbrev El := BitVec 8
def mu (a b : El) : El := BitVec.ofNat 8 (gm a.toNat b.toNat)
theorem mu_toNat (a b : El) : (mu a b).toNat = gm a.toNat b.toNat := by
  unfold mu; rw [BitVec.toNat_ofNat]; exact Nat.mod_eq_of_lt (Gf.gm_lt _ _)
theorem el_ext {a b : El} (h : a.toNat = b.toNat) : a = b := BitVec.eq_of_toNat_eq h
theorem mu_comm (a b : El) : mu a b = mu b a := el_ext (by rw [mu_toNat, mu_toNat, Gf.gm_comm])
theorem mu_assoc (a b c : El) : mu (mu a b) c = mu a (mu b c) := el_ext (by simp only [mu_toNat]; exact Gf.gm_assoc _ _ _ a.isLt b.isLt c.isLt)
theorem mu_xor (a b c : El) : mu a (b ^^^ c) = mu a b ^^^ mu a c := el_ext (by
  rw [BitVec.toNat_xor, mu_toNat, mu_toNat, mu_toNat, BitVec.toNat_xor]; exact Gf.gm_xor _ _ _ a.isLt b.isLt c.isLt)
theorem xor_mu (a b c : El) : mu (a ^^^ b) c = mu a c ^^^ mu b c := by rw [mu_comm, mu_xor, mu_comm c a, mu_comm c b]
theorem mu_zero (a : El) : mu a 0 = 0 := el_ext (by rw [mu_toNat]; exact Gf.gm_zero_right _)
theorem zero_mu (a : El) : mu 0 a = 0 := by rw [mu_comm, mu_zero]
theorem mu_one (a : El) : mu a 1 = a := el_ext (by rw [mu_toNat]; exact Gf.gm_one _ a.isLt)
theorem one_mu (a : El) : mu 1 a = a := by rw [mu_comm, mu_one]
theorem mu_ne (a b : El) (h1 : a ≠ 0) (h2 : b ≠ 0) : mu a b ≠ 0 := by
  intro h
  have h' := congrArg BitVec.toNat h
  rw [mu_toNat] at h'
  exact Gf.gm_ne a.toNat b.toNat (fun e => h1 (el_ext e)) (fun e => h2 (el_ext e)) h'
theorem x0 (a : El) : a ^^^ (0 : El) = a := BitVec.xor_zero
theorem z0 (a : El) : (0 : El) ^^^ a = a := BitVec.zero_xor
theorem xor_self' (a : El) : a ^^^ a = 0 := BitVec.xor_self
theorem xor_eq_zero {a b : El} (h : a ^^^ b = 0) : a = b := by
  have : (a ^^^ b) ^^^ b = 0 ^^^ b := by rw [h]
  rwa [BitVec.xor_assoc, xor_self', x0, z0] at this
theorem xor4 (a b c d : El) : (a ^^^ b) ^^^ (c ^^^ d) = (a ^^^ c) ^^^ (b ^^^ d) := by
  rw [BitVec.xor_assoc, BitVec.xor_assoc, ← BitVec.xor_assoc b c d, ← BitVec.xor_assoc c b d, BitVec.xor_comm b c]

/-- the sum of the first n -/
def S (n : Nat) (f : Nat → El) : El :=
  match n with
  | 0 => 0
  | n + 1 => S n f ^^^ f n
theorem S_congr (n : Nat) (f g : Nat → El) (h : ∀ i, i < n → f i = g i) : S n f = S n g := by
  induction n with
  | zero => rfl
  | succ n ih => simp only [S]; rw [ih (fun i hi => h i (by omega)), h n (by omega)]
theorem S_zero (n : Nat) : S n (fun _ => 0) = 0 := by
  induction n with
  | zero => rfl
  | succ n ih => simp only [S, ih]; rfl
theorem S_null (n : Nat) (f : Nat → El) (h : ∀ i, i < n → f i = 0) : S n f = 0 := by rw [S_congr n f (fun _ => 0) h, S_zero]
theorem S_xor (n : Nat) (f g : Nat → El) : S n (fun i => f i ^^^ g i) = S n f ^^^ S n g := by
  induction n with
  | zero => exact (z0 0).symm
  | succ n ih => simp only [S, ih]; exact xor4 _ _ _ _
theorem mu_S (n : Nat) (a : El) (f : Nat → El) : mu a (S n f) = S n (fun i => mu a (f i)) := by
  induction n with
  | zero => exact mu_zero a
  | succ n ih => simp only [S, mu_xor, ih]
theorem S_mu (n : Nat) (a : El) (f : Nat → El) : mu (S n f) a = S n (fun i => mu (f i) a) := by
  rw [mu_comm, mu_S]; exact S_congr _ _ _ (fun i _ => mu_comm _ _)
theorem S_more (n m : Nat) (f : Nat → El) (h : ∀ i, n ≤ i → f i = 0) (hm : n ≤ m) : S m f = S n f := by
  induction m with
  | zero => have : n = 0 := by omega
            subst this; rfl
  | succ m ih =>
    by_cases e : n = m + 1
    · subst e; rfl
    · simp only [S]; rw [ih (by omega), h m (by omega)]; exact x0 _
theorem S_first (n : Nat) (f : Nat → El) : S (n + 1) f = f 0 ^^^ S n (fun i => f (i + 1)) := by
  induction n with
  | zero => simp only [S]; rw [z0, x0]
  | succ n ih =>
    have : S (n + 1 + 1) f = S (n + 1) f ^^^ f (n + 1) := rfl
    rw [this, ih, BitVec.xor_assoc]; rfl
theorem S_rev (n : Nat) (f : Nat → El) : S (n + 1) (fun i => f (n - i)) = S (n + 1) f := by
  induction n with
  | zero => rfl
  | succ n ih =>
    rw [S_first]
    have : S (n + 1) (fun i => f (n + 1 - (i + 1))) = S (n + 1) (fun i => f (n - i)) := S_congr _ _ _ (fun i _ => by rw [show n + 1 - (i + 1) = n - i from by omega])
    rw [this, ih, Nat.sub_zero, BitVec.xor_comm]; rfl
/-- only one is there -/
theorem S_one (n k : Nat) (f : Nat → El) (hk : k < n) (h : ∀ i, i < n → i ≠ k → f i = 0) : S n f = f k := by
  induction n with
  | zero => omega
  | succ n ih =>
    simp only [S]
    by_cases e : k = n
    · subst e; rw [S_null k f (fun i hi => h i (by omega) (by omega)), z0]
    · rw [ih (by omega) (fun i hi hne => h i (by omega) hne), h n (by omega) (by omega), x0]
theorem S_tri (k : Nat) (f : Nat → Nat → El) : S (k + 1) (fun i => S (i + 1) (fun j => f j (i - j))) = S (k + 1) (fun j => S (k - j + 1) (fun l => f j l)) := by
  induction k with
  | zero => rfl
  | succ k ih =>
    have e1 : S (k + 1 + 1) (fun i => S (i + 1) (fun j => f j (i - j))) = S (k + 1) (fun i => S (i + 1) (fun j => f j (i - j))) ^^^ S (k + 1 + 1) (fun j => f j (k + 1 - j)) := rfl
    have e2 : S (k + 1 + 1) (fun j => S (k + 1 - j + 1) (fun l => f j l)) = S (k + 1) (fun j => S (k + 1 - j + 1) (fun l => f j l)) ^^^ S (k + 1 - (k + 1) + 1) (fun l => f (k + 1) l) := rfl
    have e3 : S (k + 1) (fun j => S (k + 1 - j + 1) (fun l => f j l)) = S (k + 1) (fun j => S (k - j + 1) (fun l => f j l)) ^^^ S (k + 1) (fun j => f j (k + 1 - j)) := by
      rw [← S_xor]
      refine S_congr _ _ _ (fun j hj => ?_)
      rw [show k + 1 - j + 1 = (k - j + 1) + 1 from by omega]
      simp only [S]
      rw [show k + 1 - j = k - j + 1 from by omega]
    have e4 : S (k + 1 + 1) (fun j => f j (k + 1 - j)) = S (k + 1) (fun j => f j (k + 1 - j)) ^^^ f (k + 1) 0 := by
      show S (k + 1) _ ^^^ f (k + 1) (k + 1 - (k + 1)) = _
      rw [Nat.sub_self]
    have e5 : S (k + 1 - (k + 1) + 1) (fun l => f (k + 1) l) = f (k + 1) 0 := by
      rw [Nat.sub_self]; simp only [S]; exact z0 _
    rw [e1, e2, e3, e4, e5, ih, BitVec.xor_assoc]

-- POLYNOMIALS: their coefficients
def cv (p q : Nat → El) (k : Nat) : El := S (k + 1) (fun i => mu (p i) (q (k - i)))
theorem cv_comm (p q : Nat → El) (k : Nat) : cv p q k = cv q p k := by
  unfold cv
  rw [← S_rev k (fun i => mu (p i) (q (k - i)))]
  refine S_congr _ _ _ (fun i hi => ?_)
  rw [show k - (k - i) = i from by omega, mu_comm]
theorem cv_congr (p p' q q' : Nat → El) (k : Nat) (h1 : ∀ i, i ≤ k → p i = p' i) (h2 : ∀ i, i ≤ k → q i = q' i) : cv p q k = cv p' q' k :=
  S_congr _ _ _ (fun i hi => by rw [h1 i (by omega), h2 (k - i) (by omega)])
theorem cv_xor_left (p q r : Nat → El) (k : Nat) : cv (fun i => p i ^^^ q i) r k = cv p r k ^^^ cv q r k := by
  unfold cv; rw [← S_xor]; exact S_congr _ _ _ (fun i _ => xor_mu _ _ _)
theorem cv_assoc (p q r : Nat → El) (k : Nat) : cv (cv p q) r k = cv p (cv q r) k := by
  have h1 : cv (cv p q) r k = S (k + 1) (fun i => S (i + 1) (fun j => (fun a b => mu (mu (p a) (q b)) (r (k - (a + b)))) j (i - j))) := by
    unfold cv
    refine S_congr _ _ _ (fun i _ => ?_)
    rw [S_mu]
    exact S_congr _ _ _ (fun j hj => by show _ = mu (mu (p j) (q (i - j))) (r (k - (j + (i - j)))); rw [show j + (i - j) = i from by omega])
  rw [h1, S_tri k (fun a b => mu (mu (p a) (q b)) (r (k - (a + b))))]
  unfold cv
  refine S_congr _ _ _ (fun j hj => ?_)
  rw [mu_S]
  exact S_congr _ _ _ (fun l hl => by rw [mu_assoc, show k - (j + l) = k - j - l from by omega])
/-- below n all is there -/
def Low (n : Nat) (p : Nat → El) : Prop := ∀ i, n ≤ i → p i = 0
theorem Low.mono {n m : Nat} {p : Nat → El} (h : Low n p) (hm : n ≤ m) : Low m p := fun i hi => h i (by omega)
theorem Low.xor {n : Nat} {p q : Nat → El} (h : Low n p) (k : Low n q) : Low n (fun i => p i ^^^ q i) := fun i hi => by
  show p i ^^^ q i = 0
  rw [h i hi, k i hi]; rfl
theorem cv_low {a b : Nat} {p q : Nat → El} (hp : Low a p) (hq : Low b q) : Low (a + b - 1) (cv p q) := by
  intro k hk
  refine S_null _ _ (fun i hi => ?_)
  by_cases h : a ≤ i
  · rw [hp i h, zero_mu]
  · rw [hq (k - i) (by omega), mu_zero]
/-- the greatest coefficients multiply -/
theorem cv_top {a b : Nat} {p q : Nat → El} (hp : Low (a + 1) p) (hq : Low (b + 1) q) : cv p q (a + b) = mu (p a) (q b) := by
  unfold cv
  rw [S_one _ a _ (by omega) (fun i hi hne => ?_)]
  · rw [show a + b - a = b from by omega]
  · by_cases h : a + 1 ≤ i
    · rw [hp i h, zero_mu]
    · rw [hq (a + b - i) (by omega), mu_zero]
/-- a product with q that is lower than q is nothing -/
theorem cv_lower {n d : Nat} {u q : Nat → El} (hu : Low n u) (hq : Low (d + 1) q) (hd : q d ≠ 0) (h : Low d (cv u q)) : ∀ i, u i = 0 := by
  induction n with
  | zero => exact fun i => hu i (by omega)
  | succ n ih =>
    refine ih (fun i hi => ?_)
    by_cases e : i = n
    · subst e
      by_cases hz : u i = 0
      · exact hz
      · have h1 := cv_top hu hq
        rw [h (i + d) (by omega)] at h1
        exact absurd h1.symm (mu_ne _ _ hz hd)
    · exact hu i (by omega)
/-- what is left of a division is told by that alone -/
theorem mod_unique {n m d : Nat} {t u q r s : Nat → El} (ht : Low n t) (hu : Low m u) (hq : Low (d + 1) q) (hd : q d ≠ 0) (hr : Low d r) (hs : Low d s) (h : ∀ k, cv t q k ^^^ r k = cv u q k ^^^ s k) : ∀ k, r k = s k := by
  have hx : ∀ k, cv (fun i => t i ^^^ u i) q k = r k ^^^ s k := by
    intro k
    rw [cv_xor_left]
    have := h k
    have e : (cv t q k ^^^ cv u q k) ^^^ (r k ^^^ s k) = 0 := by
      rw [xor4, this]; exact BitVec.xor_self
    exact xor_eq_zero e
  have hlow : Low d (cv (fun i => t i ^^^ u i) q) := fun k hk => by rw [hx k, hr k hk, hs k hk]; rfl
  have hz := cv_lower (n := n + m) (Low.xor (ht.mono (by omega)) (hu.mono (by omega))) hq hd hlow
  intro k
  have h0 : cv (fun i => t i ^^^ u i) q k = 0 := S_null _ _ (fun i _ => by show mu (t i ^^^ u i) _ = 0; rw [hz i, zero_mu])
  rw [hx k] at h0
  exact xor_eq_zero h0

-- VALUES
def pwr (x : El) : Nat → El
  | 0 => 1
  | n + 1 => mu (pwr x n) x
theorem pwr_add (x : El) (n m : Nat) : pwr x (n + m) = mu (pwr x n) (pwr x m) := by
  induction m with
  | zero => exact (mu_one _).symm
  | succ m ih => show mu (pwr x (n + m)) x = mu (pwr x n) (mu (pwr x m) x); rw [ih, mu_assoc]
def ev (n : Nat) (p : Nat → El) (x : El) : El := S n (fun i => mu (p i) (pwr x i))
theorem ev_more {n m : Nat} {p : Nat → El} (h : Low n p) (hm : n ≤ m) (x : El) : ev m p x = ev n p x :=
  S_more _ _ _ (fun i hi => by rw [h i hi, zero_mu]) hm
theorem ev_xor (n : Nat) (p q : Nat → El) (x : El) : ev n (fun i => p i ^^^ q i) x = ev n p x ^^^ ev n q x := by
  unfold ev; rw [← S_xor]; exact S_congr _ _ _ (fun i _ => xor_mu _ _ _)
theorem ev_scale (n : Nat) (p : Nat → El) (a x : El) : ev n (fun i => mu (p i) a) x = mu (ev n p x) a := by
  unfold ev; rw [S_mu]; exact S_congr _ _ _ (fun i _ => by rw [mu_assoc, mu_assoc, mu_comm a])
theorem ev_cv {a b : Nat} {p q : Nat → El} (hp : Low a p) (hq : Low b q) (x : El) : ev (a + b) (cv p q) x = mu (ev a p x) (ev b q x) := by
  cases a with
  | zero =>
    have h0 : ev 0 p x = 0 := rfl
    rw [h0, zero_mu]
    exact S_null _ _ (fun k _ => by
      have : cv p q k = 0 := S_null _ _ (fun i _ => by rw [hp i (by omega), zero_mu])
      rw [this, zero_mu])
  | succ a =>
    have e1 : ev (a + 1 + b) (cv p q) x = S (a + b + 1) (fun i => S (i + 1) (fun j => (fun c e => mu (mu (p c) (pwr x c)) (mu (q e) (pwr x e))) j (i - j))) := by
      unfold ev
      rw [show a + 1 + b = a + b + 1 from by omega]
      refine S_congr _ _ _ (fun i _ => ?_)
      unfold cv
      rw [S_mu]
      refine S_congr _ _ _ (fun j hj => ?_)
      show mu (mu (p j) (q (i - j))) (pwr x i) = mu (mu (p j) (pwr x j)) (mu (q (i - j)) (pwr x (i - j)))
      have hi : pwr x i = mu (pwr x j) (pwr x (i - j)) := by rw [← pwr_add, show j + (i - j) = i from by omega]
      rw [hi, mu_assoc, mu_assoc, ← mu_assoc (q (i - j)), ← mu_assoc (pwr x j), mu_comm (q (i - j)) (pwr x j)]
    rw [e1, S_tri (a + b) (fun c e => mu (mu (p c) (pwr x c)) (mu (q e) (pwr x e)))]
    have e2 : ∀ j, j < a + b + 1 → S (a + b - j + 1) (fun l => mu (mu (p j) (pwr x j)) (mu (q l) (pwr x l))) = mu (mu (p j) (pwr x j)) (ev b q x) := by
      intro j hj
      rw [← mu_S]
      by_cases h : a + 1 ≤ j
      · rw [hp j h, zero_mu, zero_mu, zero_mu]
      · have : S (a + b - j + 1) (fun l => mu (q l) (pwr x l)) = ev b q x := ev_more hq (by omega) x
        rw [this]
    rw [S_congr _ _ _ e2, ← S_mu]
    congr 1
    exact ev_more hp (by omega) x

-- THE BYTES OF THE PROGRAM AS ELEMENTS
def toE (a : Int) : El := BitVec.ofInt 8 a
theorem toE_nat (n : Nat) (h : n < 256) : (toE (n : Int)).toNat = n := ofInt_u8 n h
theorem toE_toNat (a : Int) (h0 : 0 ≤ a) (h1 : a < 256) : (((toE a).toNat : Nat) : Int) = a := by
  obtain ⟨n, rfl⟩ := Int.eq_ofNat_of_zero_le h0
  rw [toE_nat n (by omega)]
theorem toE_inj {a b : Int} (ha0 : 0 ≤ a) (ha1 : a < 256) (hb0 : 0 ≤ b) (hb1 : b < 256) (h : toE a = toE b) : a = b := by
  rw [← toE_toNat a ha0 ha1, ← toE_toNat b hb0 hb1, h]
theorem toE_zero : toE 0 = 0 := rfl
theorem toE_one : toE 1 = 1 := rfl
theorem toE_xor (a b : Int) (ha0 : 0 ≤ a) (ha1 : a < 256) (hb0 : 0 ≤ b) (hb1 : b < 256) : toE (bits .xor .u8 a b) = toE a ^^^ toE b := by
  obtain ⟨n, rfl⟩ := Int.eq_ofNat_of_zero_le ha0
  obtain ⟨m, rfl⟩ := Int.eq_ofNat_of_zero_le hb0
  rw [u8_xor_nat n m (by omega) (by omega)]
  refine el_ext ?_
  have hx : n ^^^ m < 2 ^ 8 := Nat.xor_lt_two_pow (by omega) (by omega)
  rw [toE_nat _ (by omega), BitVec.toNat_xor, toE_nat _ (by omega), toE_nat _ (by omega)]
theorem toE_gI (a b : Int) (ha0 : 0 ≤ a) (ha1 : a < 256) (hb0 : 0 ≤ b) (hb1 : b < 256) : toE (gI a b) = mu (toE a) (toE b) := by
  obtain ⟨n, rfl⟩ := Int.eq_ofNat_of_zero_le ha0
  obtain ⟨m, rfl⟩ := Int.eq_ofNat_of_zero_le hb0
  refine el_ext ?_
  rw [mu_toNat, toE_nat n (by omega), toE_nat m (by omega)]
  unfold gI
  simp only [Int.toNat_natCast]
  rw [toE_nat _ (Gf.gm_lt _ _)]
theorem toE_pI (a : Int) (ha0 : 0 ≤ a) (ha1 : a < 256) (n : Nat) : toE (pI a n) = pwr (toE a) n := by
  induction n with
  | zero => rfl
  | succ n ih =>
    have h := Gf.pI_bd a n
    rw [show ((n + 1 : Nat) : Int) = (n : Int) + 1 from by omega, Gf.pI_step a n (by omega), toE_gI _ _ h.1 h.2 ha0 ha1, ih]; rfl
theorem toE_eq_zero (a : Int) (h0 : 0 ≤ a) (h1 : a < 256) : toE a = 0 ↔ a = 0 := by
  constructor
  · intro h; exact toE_inj h0 h1 (by decide) (by decide) (by rw [h]; rfl)
  · intro h; subst h; rfl
/-- a list's coefficients -/
def cf (l : List Int) (i : Nat) : El := toE (l[i]?.getD 0)
theorem cf_low (l : List Int) : Low l.length (cf l) := fun i hi => by
  unfold cf; rw [List.getElem?_eq_none hi]; rfl

-- ROOTS
def one : Nat → El := fun i => if i = 0 then 1 else 0
def lin (r : El) : Nat → El := fun i => if i = 0 then r else if i = 1 then 1 else 0
def rts : List El → Nat → El
  | [] => one
  | r :: rs => cv (rts rs) (lin r)
theorem lin_low (r : El) : Low 2 (lin r) := fun i hi => by unfold lin; rw [if_neg (by omega), if_neg (by omega)]
theorem rts_low (l : List El) : Low (l.length + 1) (rts l) := by
  induction l with
  | nil => intro i hi; show one i = 0; unfold one; exact if_neg (by simp at hi; omega)
  | cons r rs ih =>
    have h := cv_low ih (lin_low r)
    intro i hi
    exact h i (by simp only [List.length_cons] at hi; omega)
theorem rts_top (l : List El) : rts l l.length = 1 := by
  induction l with
  | nil => rfl
  | cons r rs ih =>
    show cv (rts rs) (lin r) (rs.length + 1) = 1
    rw [cv_top (rts_low rs) (lin_low r), ih, one_mu]; rfl
theorem ev_lin (r x : El) : ev 2 (lin r) x = r ^^^ x := by
  show (0 ^^^ mu r 1) ^^^ mu 1 (mu 1 x) = _
  rw [z0, mu_one, one_mu, one_mu]
theorem ev_rts (l : List El) (x : El) : ev (l.length + 1) (rts l) x = 0 ↔ x ∈ l := by
  induction l with
  | nil =>
    have : ev 1 (rts []) x = 1 := by show 0 ^^^ mu 1 1 = 1; rw [z0, mu_one]
    show ev 1 (rts []) x = 0 ↔ _
    rw [this]; simp
  | cons r rs ih =>
    have h := ev_cv (rts_low rs) (lin_low r) x
    have hl : ev ((r :: rs).length + 1) (rts (r :: rs)) x = mu (ev (rs.length + 1) (rts rs) x) (r ^^^ x) := by
      rw [← ev_lin r x, ← h]
      show ev (rs.length + 1 + 1) (cv (rts rs) (lin r)) x = _
      exact (ev_more (cv_low (rts_low rs) (lin_low r)) (by omega) x).trans (ev_more (cv_low (rts_low rs) (lin_low r)) (by omega) x).symm
    rw [hl]
    constructor
    · intro h0
      by_cases h1 : ev (rs.length + 1) (rts rs) x = 0
      · exact List.mem_cons_of_mem _ (ih.1 h1)
      · by_cases h2 : r ^^^ x = 0
        · rw [xor_eq_zero h2]; exact List.mem_cons_self
        · exact absurd h0 (mu_ne _ _ h1 h2)
    · intro h0
      rcases List.mem_cons.1 h0 with h0 | h0
      · rw [h0, xor_self', mu_zero]
      · rw [ih.2 h0, zero_mu]

end Go.Proofs.YtoimbjbdkkohcaaGreatDoor.Po

/-
  Plain mathematics of layer 5: words of 39 symbols over the field; a word that is 0 at the four roots and has at most four symbols other than 0 is 0; whose place four syndromes tell.
-/
namespace Go.Proofs.YtoimbjbdkkohcaaGreatDoor.Rm
open Po

/-- the i-th power of x -/
def al (i : Nat) : El := pwr 2 i
theorem al_toNat (i : Nat) : (al i).toNat = Gf.ex i := by
  induction i with
  | zero => rfl
  | succ i ih =>
    show (mu (al i) 2).toNat = Gf.ex (i + 1)
    rw [mu_toNat, ih, show (2 : El).toNat = Gf.ex 1 from rfl, Gf.gm_ex]
theorem al_inj {i j : Nat} (hi : i < 255) (hj : j < 255) (h : al i = al j) : i = j :=
  Gf.ex_inj i j hi hj (by rw [← al_toNat, ← al_toNat, h])
theorem al_ne (i : Nat) : al i ≠ 0 := fun h => Gf.ex_pos i (by rw [← al_toNat, h]; rfl)
theorem pwr_mul (x : El) (n m : Nat) : pwr (pwr x n) m = pwr x (n * m) := by
  induction m with
  | zero => rfl
  | succ m ih => show mu (pwr (pwr x n) m) (pwr x n) = pwr x (n * m + n); rw [ih, pwr_add]
theorem al_swap (i j : Nat) : pwr (al j) i = pwr (al i) j := by unfold al; rw [pwr_mul, pwr_mul, Nat.mul_comm]

/-! ### sums of powers -/
def ps : List (El × El) → Nat → El
  | [], _ => 0
  | p :: l, j => mu p.1 (pwr p.2 j) ^^^ ps l j
/-- each term times its place less x0 -/
def less (x0 : El) (l : List (El × El)) : List (El × El) := l.map fun p => (mu p.1 (p.2 ^^^ x0), p.2)
theorem ps_less (x0 : El) (l : List (El × El)) (j : Nat) : ps (less x0 l) j = ps l (j + 1) ^^^ mu x0 (ps l j) := by
  induction l with
  | nil => show (0 : El) = 0 ^^^ mu x0 0; rw [mu_zero]; rfl
  | cons p l ih =>
    show mu (mu p.1 (p.2 ^^^ x0)) (pwr p.2 j) ^^^ ps (less x0 l) j = (mu p.1 (mu (pwr p.2 j) p.2) ^^^ ps l (j + 1)) ^^^ mu x0 (mu p.1 (pwr p.2 j) ^^^ ps l j)
    rw [ih, mu_xor x0, xor4]
    congr 1
    rw [mu_assoc, xor_mu, mu_xor, mu_comm p.2 (pwr p.2 j)]
    congr 1
    rw [← mu_assoc, ← mu_assoc, mu_comm p.1 x0]
theorem vand : ∀ (n : Nat) (l : List (El × El)), l.length = n → (l.map Prod.snd).Nodup → (∀ j, j < n → ps l j = 0) → ∀ p ∈ l, p.1 = 0
  | 0, l, hl, _, _, p, hp => by
    have : l = [] := List.eq_nil_of_length_eq_zero hl
    rw [this] at hp; cases hp
  | n + 1, [], hl, _, _, p, hp => by cases hp
  | n + 1, (e0, x0) :: t, hl, hd, h, p, hp => by
    have hd' := List.nodup_cons.1 (show (x0 :: t.map Prod.snd).Nodup from hd)
    have ht : t.length = n := by simpa using hl
    have h' : ∀ j, j < n → ps (less x0 t) j = 0 := by
      intro j hj
      have e1 := h j (by omega)
      have e2 := h (j + 1) (by omega)
      have e3 := ps_less x0 ((e0, x0) :: t) j
      rw [e1, e2, mu_zero] at e3
      have e4 : ps (less x0 ((e0, x0) :: t)) j = ps (less x0 t) j := by
        show mu (mu e0 (x0 ^^^ x0)) (pwr x0 j) ^^^ ps (less x0 t) j = _
        rw [xor_self', mu_zero, zero_mu, z0]
      rw [← e4, e3]; rfl
    have hs : (less x0 t).map Prod.snd = t.map Prod.snd := by unfold less; rw [List.map_map]; rfl
    have all := vand n (less x0 t) (by unfold less; rw [List.length_map]; exact ht) (by rw [hs]; exact hd'.2) h'
    have tz : ∀ q ∈ t, q.1 = 0 := by
      intro q hq
      have := all (mu q.1 (q.2 ^^^ x0), q.2) (List.mem_map.2 ⟨q, hq, rfl⟩)
      by_cases hq0 : q.1 = 0
      · exact hq0
      · exfalso
        have hne : q.2 ^^^ x0 ≠ 0 := fun e => hd'.1 (by rw [← xor_eq_zero e]; exact List.mem_map.2 ⟨q, hq, rfl⟩)
        exact mu_ne _ _ hq0 hne this
    have pz : ∀ (t : List (El × El)), (∀ q ∈ t, q.1 = 0) → ps t 0 = 0 := by
      intro t
      induction t with
      | nil => intro _; rfl
      | cons q t ih =>
        intro hq
        show mu q.1 (pwr q.2 0) ^^^ ps t 0 = 0
        rw [hq q (by simp), zero_mu, z0, ih (fun r hr => hq r (by simp [hr]))]
    rcases List.mem_cons.1 hp with rfl | hp
    · have e1 := h 0 (by omega)
      have e2 : mu e0 (pwr x0 0) ^^^ ps t 0 = 0 := e1
      rw [pz t tz, Po.x0, show pwr x0 0 = 1 from rfl, mu_one] at e2
      exact e2
    · exact tz p hp

/-! ### words -/
/-- the symbols of the first n that are not 0 -/
def supp : Nat → (Nat → El) → List Nat
  | 0, _ => []
  | n + 1, W => if W n = 0 then supp n W else supp n W ++ [n]
theorem supp_no (n : Nat) (W : Nat → El) (h : W n = 0) : supp (n + 1) W = supp n W := by unfold supp; rw [if_pos h]; cases n <;> rfl
theorem supp_yes (n : Nat) (W : Nat → El) (h : W n ≠ 0) : supp (n + 1) W = supp n W ++ [n] := by
  show (if W n = 0 then supp n W else supp n W ++ [n]) = _
  rw [if_neg h]
theorem mem_supp (n : Nat) (W : Nat → El) (i : Nat) : i ∈ supp n W ↔ i < n ∧ W i ≠ 0 := by
  induction n with
  | zero =>
    constructor
    · intro h
      cases h
    · intro h
      omega
  | succ n ih =>
    by_cases h : W n = 0
    · rw [supp_no n W h, ih]
      constructor
      · rintro ⟨h1, h2⟩; exact ⟨by omega, h2⟩
      · rintro ⟨h1, h2⟩
        by_cases e : i = n
        · rw [e] at h2; exact absurd h h2
        · exact ⟨by omega, h2⟩
    · rw [supp_yes n W h, List.mem_append, ih]
      constructor
      · rintro (⟨h1, h2⟩ | h1)
        · exact ⟨by omega, h2⟩
        · obtain rfl := List.mem_singleton.1 h1
          exact ⟨by omega, h⟩
      · rintro ⟨h1, h2⟩
        by_cases e : i = n
        · exact .inr (by rw [e]; exact List.mem_singleton.2 rfl)
        · exact .inl ⟨by omega, h2⟩
theorem supp_nodup (n : Nat) (W : Nat → El) : (supp n W).Nodup := by
  induction n with
  | zero => exact List.nodup_nil
  | succ n ih =>
    by_cases h : W n = 0
    · rw [supp_no n W h]; exact ih
    · rw [supp_yes n W h]
      refine List.nodup_append.2 ⟨ih, by simp, ?_⟩
      intro a ha b hb e
      have := (mem_supp n W a).1 ha
      have := List.mem_singleton.1 hb
      omega
theorem ps_append (a b : List (El × El)) (j : Nat) : ps (a ++ b) j = ps a j ^^^ ps b j := by
  induction a with
  | nil => exact (z0 _).symm
  | cons p a ih => show mu p.1 (pwr p.2 j) ^^^ ps (a ++ b) j = (mu p.1 (pwr p.2 j) ^^^ ps a j) ^^^ ps b j; rw [ih, BitVec.xor_assoc]
theorem ev_supp (W : Nat → El) (n j : Nat) : ev n W (al j) = ps ((supp n W).map fun i => (W i, al i)) j := by
  induction n with
  | zero => rfl
  | succ n ih =>
    show ev n W (al j) ^^^ mu (W n) (pwr (al j) n) = _
    rw [ih, al_swap]
    by_cases h : W n = 0
    · rw [supp_no n W h, h, zero_mu, Po.x0]
    · rw [supp_yes n W h, List.map_append, ps_append]
      congr 1
      exact (Po.x0 _).symm
/-- a word that is 0 at the four roots and has at most four symbols but 0 is 0 -/
theorem few (W : Nat → El) (h : ∀ j, j < 4 → ev 39 W (al j) = 0) (hs : (supp 39 W).length ≤ 4) : ∀ i, i < 39 → W i = 0 := by
  intro i hi
  by_cases h0 : W i = 0
  · exact h0
  · have hm : i ∈ supp 39 W := (mem_supp 39 W i).2 ⟨hi, h0⟩
    refine vand _ ((supp 39 W).map fun i => (W i, al i)) rfl ?_ ?_ (W i, al i) (List.mem_map.2 ⟨i, hm, rfl⟩)
    · rw [List.map_map]
      have hnd := supp_nodup 39 W
      refine (List.pairwise_map).2 ?_
      refine List.Pairwise.imp_of_mem ?_ hnd
      intro a b ha hb hab e
      have ha' := ((mem_supp 39 W a).1 ha).1
      have hb' := ((mem_supp 39 W b).1 hb).1
      exact hab (al_inj (by omega) (by omega) e)
    · intro j hj
      rw [← ev_supp]
      rw [List.length_map] at hj
      exact h j (by omega)
theorem nodup_le : ∀ (A L : List Nat), A.Nodup → (∀ i ∈ A, i ∈ L) → A.length ≤ L.length
  | [], L, _, _ => Nat.zero_le _
  | a :: A, L, hn, hs => by
    have hn' := List.nodup_cons.1 hn
    have ha := hs a (by simp)
    have := nodup_le A (L.erase a) hn'.2 (fun i hi => (List.mem_erase_of_ne (fun e => hn'.1 (by rw [← e]; exact hi))).2 (hs i (by simp [hi])))
    rw [List.length_erase_of_mem ha] at this
    have hpos : 0 < L.length := List.length_pos_of_mem ha
    simp only [List.length_cons]; omega
theorem supp_sub (W : Nat → El) (L : List Nat) (n : Nat) (h : ∀ i, i < n → W i ≠ 0 → i ∈ L) : (supp n W).length ≤ L.length := by
  refine nodup_le _ L (supp_nodup n W) ?_
  intro i hi
  have := (mem_supp n W i).1 hi
  exact h i this.1 this.2

/-- a word is a code word -/
def IsCode (W : Nat → El) : Prop := ∀ j, j < 4 → ev 39 W (al j) = 0
theorem IsCode.xor {W U : Nat → El} (h : IsCode W) (k : IsCode U) : IsCode (fun i => W i ^^^ U i) := fun j hj => by
  rw [ev_xor, h j hj, k j hj]; rfl
theorem IsCode.scale {W : Nat → El} (h : IsCode W) (a : El) : IsCode (fun i => mu (W i) a) := fun j hj => by
  rw [ev_scale, h j hj, zero_mu]
/-- unlike code words differ in five symbols at least -/
theorem apart {W U : Nat → El} (h : IsCode W) (k : IsCode U) (hs : (supp 39 fun i => W i ^^^ U i).length ≤ 4) : ∀ i, i < 39 → W i = U i :=
  fun i hi => xor_eq_zero (few _ (h.xor k) hs i hi)
/-- the checks are the only ones -/
theorem checks_only {W U : Nat → El} (h : IsCode W) (k : IsCode U) (he : ∀ i, 4 ≤ i → i < 39 → W i = U i) : ∀ i, i < 39 → W i = U i :=
  apart h k (Nat.le_trans (supp_sub _ [0, 1, 2, 3] 39 (fun i hi hne => by
    by_cases h4 : 4 ≤ i
    · exact absurd (by show W i ^^^ U i = 0; rw [he i h4 hi, xor_self']) hne
    · simp; omega)) (by simp))

/-! ### whose place -/
/-- one symbol at the place i, with the value a -/
def one' (i : Nat) (a : El) : Nat → El := fun k => if k = i then a else 0
theorem ev_one (i : Nat) (a : El) (j : Nat) (hi : i < 39) : ev 39 (one' i a) (al j) = mu a (pwr (al i) j) := by
  unfold ev
  rw [S_one 39 i _ hi (fun k _ hk => by unfold one'; rw [if_neg hk, zero_mu])]
  unfold one'; rw [if_pos rfl, al_swap]
/-- four syndromes are those of a symbol at the place i -/
abbrev At (s : Nat → El) (i : Nat) : Prop := s 0 ≠ 0 ∧ s 1 = mu (s 0) (al i) ∧ s 2 = mu (s 1) (al i) ∧ s 3 = mu (s 2) (al i)
theorem at_iff (s : Nat → El) (i : Nat) : At s i ↔ s 0 ≠ 0 ∧ ∀ j, j < 4 → s j = mu (s 0) (pwr (al i) j) := by
  constructor
  · rintro ⟨h0, h1, h2, h3⟩
    have p0 : pwr (al i) 0 = 1 := rfl
    have p1 : pwr (al i) 1 = al i := one_mu _
    have p2 : pwr (al i) 2 = mu (al i) (al i) := by show mu (pwr (al i) 1) (al i) = _; rw [p1]
    have p3 : pwr (al i) 3 = mu (mu (al i) (al i)) (al i) := by show mu (pwr (al i) 2) (al i) = _; rw [p2]
    refine ⟨h0, fun j hj => ?_⟩
    rcases (show j = 0 ∨ j = 1 ∨ j = 2 ∨ j = 3 by omega) with rfl | rfl | rfl | rfl
    · rw [p0, mu_one]
    · rw [p1]; exact h1
    · rw [p2, h2, h1, mu_assoc]
    · rw [p3, h3, h2, h1, mu_assoc, mu_assoc, mu_assoc]
  · rintro ⟨h0, h⟩
    have st : ∀ j, pwr (al i) (j + 1) = mu (pwr (al i) j) (al i) := fun j => rfl
    refine ⟨h0, ?_, ?_, ?_⟩
    · rw [h 1 (by omega), show pwr (al i) 1 = al i from one_mu _]
    · rw [h 2 (by omega), h 1 (by omega), st 1, mu_assoc]
    · rw [h 3 (by omega), h 2 (by omega), st 2, mu_assoc]
theorem at_only {s : Nat → El} {i k : Nat} (hi : i < 39) (hk : k < 39) (h : At s i) (g : At s k) : i = k := by
  have e : mu (s 0) (al i) = mu (s 0) (al k) := by rw [← h.2.1, ← g.2.1]
  have e2 : mu (s 0) (al i ^^^ al k) = 0 := by rw [mu_xor, e, xor_self']
  by_cases hne : al i ^^^ al k = 0
  · exact al_inj (by omega) (by omega) (xor_eq_zero hne)
  · exact absurd e2 (mu_ne _ _ h.1 hne)
/-- the syndromes of a word -/
def sy (W : Nat → El) (j : Nat) : El := ev 39 W (al j)
theorem sy_one (i : Nat) (a : El) (hi : i < 39) (ha : a ≠ 0) : At (sy (one' i a)) i := (at_iff _ _).2 (by
  have h0 : sy (one' i a) 0 = a := by unfold sy; rw [ev_one i a 0 hi]; exact mu_one a
  refine ⟨by rw [h0]; exact ha, fun j _ => ?_⟩
  rw [h0]; exact ev_one i a j hi)
theorem sy_one0 (i : Nat) (a : El) (hi : i < 39) : sy (one' i a) 0 = a := by unfold sy; rw [ev_one i a 0 hi]; exact mu_one a
/-- with two or three symbols but 0 a word is no code word, nor one but for a symbol -/
theorem two_three (E : Nat → El) (h2 : 2 ≤ (supp 39 E).length) (h3 : (supp 39 E).length ≤ 3) : ¬ IsCode E ∧ ∀ i, i < 39 → ¬ At (sy E) i := by
  constructor
  · intro h
    have hz := few E h (by omega)
    have : (supp 39 E).length ≤ 0 := supp_sub E [] 39 (fun i hi hne => absurd (hz i hi) hne)
    omega
  · intro i hi hat
    obtain ⟨_, hj⟩ := (at_iff _ _).1 hat
    have hc : ∀ j, j < 4 → ev 39 (fun k => E k ^^^ one' i (sy E 0) k) (al j) = 0 := by
      intro j h
      rw [ev_xor, ev_one _ _ _ hi]
      have := hj j h
      unfold sy at this ⊢
      rw [← this, xor_self']
    have hz := few _ hc (Nat.le_trans (supp_sub _ (i :: supp 39 E) 39 (fun k hk hne => by
      by_cases e : k = i
      · rw [e]; exact List.mem_cons_self
      · refine List.mem_cons.2 (.inr ((mem_supp 39 E k).2 ⟨hk, ?_⟩))
        unfold one' at hne
        rw [if_neg e, Po.x0] at hne
        exact hne)) (by simp only [List.length_cons]; omega))
    have hle : (supp 39 E).length ≤ 1 := by
      refine Nat.le_trans (supp_sub E [i] 39 (fun k hk hne => ?_)) (by simp)
      by_cases e : k = i
      · simp [e]
      · have := hz k hk
        unfold one' at this
        rw [if_neg e, Po.x0] at this
        exact absurd this hne
    omega
end Go.Proofs.YtoimbjbdkkohcaaGreatDoor.Rm

/-
  Arrays of bytes by value; the document's word, value, values.
-/
namespace Go.Proofs.YtoimbjbdkkohcaaGreatDoor
open Go.RowKit
open Gf (gI)
open Po (El mu pwr ev S)
open Rm (al sy)

/-- an element as the program's byte -/
def oe (e : El) : Int := ((e.toNat : Nat) : Int)
theorem oe_bd (e : El) : 0 ≤ oe e ∧ oe e < 256 := by
  have := e.isLt; unfold oe; omega
theorem oe_inj {a b : El} (h : oe a = oe b) : a = b := Po.el_ext (by unfold oe at h; omega)
theorem oe_zero : oe 0 = 0 := rfl
theorem oe_mu (a b : El) : gI (oe a) (oe b) = oe (mu a b) := by unfold oe gI; rw [Po.mu_toNat]; simp
theorem oe_xor (a b : El) : bits .xor .u8 (oe a) (oe b) = oe (a ^^^ b) := by
  unfold oe; rw [u8_xor_nat _ _ a.isLt b.isLt, BitVec.toNat_xor]
theorem oe_eq (a b : El) : (oe a == oe b) = decide (a = b) := by
  by_cases h : a = b
  · rw [h]; simp
  · have : oe a ≠ oe b := fun e => h (oe_inj e)
    simp [h, this]
theorem oe_eq0 (a : El) : (oe a == 0) = decide (a = 0) := oe_eq a 0
theorem mulE_any (a b : El) (w : World) : Calls Tryz.prog 53 #[.int .u8 (oe a), .int .u8 (oe b)] w fun e w' => e = .returned (.int .u8 (oe (mu a b))) ∧ w' = w := by
  rw [← oe_mu]; exact refMul_any _ _ (oe_bd a).1 (oe_bd a).2 (oe_bd b).1 (oe_bd b).2 w

/-! ### arrays -/
/-- n bytes -/
def arr (n : Nat) (F : Nat → El) : List Value := (List.range n).map fun i => Value.int .u8 (oe (F i))
theorem arr_len (n : Nat) (F : Nat → El) : (arr n F).length = n := by simp [arr]
theorem arr_at (n : Nat) (F : Nat → El) (i : Nat) (h : i < n) : (arr n F)[i]? = some (.int .u8 (oe (F i))) := by
  simp [arr, h]
theorem arr_congr (n : Nat) (F G : Nat → El) (h : ∀ i, i < n → F i = G i) : arr n F = arr n G := by
  unfold arr
  refine List.map_congr_left fun i hi => ?_
  rw [h i (List.mem_range.1 hi)]
theorem arr_inj (n : Nat) (F G : Nat → El) (h : arr n F = arr n G) : ∀ i, i < n → F i = G i := by
  intro i hi
  have e := arr_at n F i hi
  rw [h, arr_at n G i hi] at e
  simp only [Option.some.injEq, Value.int.injEq, true_and] at e
  exact (oe_inj e).symm
theorem arr_one (n : Nat) (F : Nat → El) : (arr n F).toArray.all (·.oneCell') = true := by
  refine all_oneCell_toArray fun v hv => ?_
  obtain ⟨i, _, rfl⟩ := List.mem_map.1 hv
  rfl
/-- block b holds n bytes from its head on -/
def Arr (W : World) (b n : Nat) (F : Nat → El) : Prop := ∀ i : Nat, i < n → W.cell? ⟨b, i, none⟩ = some (.int .u8 (oe (F i)))
theorem Arr.of {W W' : World} {b n : Nat} {F : Nat → El} (h : Arr W b n F) (k : W'.heap[b]? = W.heap[b]?) : Arr W' b n F := fun i hi => (World.cell?_of_block (w := W) (a := ⟨b, i, none⟩) k).trans (h i hi)
theorem Arr.below {C : Nat} {W W' : World} {b n : Nat} {F : Nat → El} (h : Arr W b n F) (k : Below C W W') (hb : b < C) : Arr W' b n F := h.of (k.block b hb)
theorem Arr.range {W : World} {b n : Nat} {F : Nat → El} (h : Arr W b n F) : W.rangeAt b 0 (arr n F) := fun j v hv => by
  have hj : j < n := by have := (List.getElem?_eq_some_iff.1 hv).1; rw [arr_len] at this; exact this
  rw [arr_at n F j hj] at hv
  cases hv
  rw [Nat.zero_add]; exact h j hj
theorem Arr.ofRange {W : World} {b n : Nat} {F : Nat → El} (h : W.rangeAt b 0 (arr n F)) : Arr W b n F := fun i hi => by
  have := h i _ (arr_at n F i hi)
  rw [Nat.zero_add] at this; exact this
theorem Arr.new (W : World) (n : Nat) (F : Nat → El) (t : TypeId) : Arr (W.alloc (.cells (arr n F).toArray t)) W.heap.size n F := fun i hi => by
  rw [World.cell?_alloc_new]
  simpa using arr_at n F i hi
theorem Arr.congr {W : World} {b n : Nat} {F G : Nat → El} (h : Arr W b n F) (k : ∀ i, i < n → F i = G i) : Arr W b n G := fun i hi => by rw [← k i hi]; exact h i hi
theorem Arr.alloc {W : World} {b n : Nat} {F : Nat → El} (h : Arr W b n F) (hb : b < W.heap.size) (o : Obj) : Arr (W.alloc o) b n F := h.of (Below.heap_alloc W o b hb)
/-- and they may be written -/
structure ArrW (W : World) (b n : Nat) (F : Nat → El) : Prop where
  at_ : Arr W b n F
  free : ∀ i : Nat, i < n → W.frozen? ⟨b, i, none⟩ = false
theorem ArrW.of {W W' : World} {b n : Nat} {F : Nat → El} (h : ArrW W b n F) (k : W'.heap[b]? = W.heap[b]?) : ArrW W' b n F :=
  ⟨h.at_.of k, fun i hi => (World.frozen?_of_block (w := W) (a := ⟨b, i, none⟩) k).trans (h.free i hi)⟩
theorem ArrW.set {W : World} {b n : Nat} {F : Nat → El} (h : ArrW W b n F) (i : Nat) (hi : i < n) (e : El) : ArrW (W.setCell ⟨b, i, none⟩ (.int .u8 (oe e))) b n (fun k => if k = i then e else F k) := by
  constructor
  · intro k hk
    show _ = some (Value.int .u8 (oe (if k = i then e else F k)))
    by_cases hki : k = i
    · rw [if_pos hki, hki]
      exact World.cell?_setCell_same' _ _ _ (by rw [h.at_ i hi]; rfl)
    · rw [if_neg hki]
      have hne : (⟨b, i, none⟩ : Addr) ≠ ⟨b, k, none⟩ := fun e => hki (by simp only [Addr.mk.injEq] at e; exact e.2.1.symm)
      rw [World.cell?_setCell_other _ _ _ _ hne]; exact h.at_ k hk
  · intro k hk
    rw [World.frozen?_setCell]; exact h.free k hk
theorem ArrW.there {W : World} {b n : Nat} {F : Nat → El} (h : ArrW W b n F) : W.there b 0 n := fun j hj => by
  rw [Nat.zero_add, h.at_ j hj]; exact ⟨rfl, h.free j hj⟩
end Go.Proofs.YtoimbjbdkkohcaaGreatDoor

/-
  The document's word, value and values of layer 5.
-/
namespace Go.Proofs.YtoimbjbdkkohcaaGreatDoor
open Go.RowKit
open Gf (gI)
open Po (El mu pwr ev S)
open Rm (al sy)

theorem info39 : (Tryz.prog.info? 52).map (·.size) = some 39 := by kernel_rfl
set_option maxRecDepth 100000 in
set_option maxHeartbeats 1000000 in
theorem refValue_any (W : Nat → El) (x : El) (w : World) :
    Calls Tryz.prog 52 #[.agg (arr 39 W).toArray, .int .u8 (oe x)] w fun e w' => e = .returned (.int .u8 (oe (ev 39 W x))) ∧ Below w.heap.size w w' := by
  obtain ⟨R, HR⟩ : ∃ R, Hid (ev 39 W x = R) := ⟨_, rfl⟩
  rw [HR.out]
  obtain ⟨A, hA, hAn⟩ : ∃ A : Array Value, (arr 39 W).toArray = A ∧ Hid (∀ t, Arr (w.alloc (.cells A t)) w.heap.size 39 W) := ⟨_, rfl, fun t => Arr.new w 39 W t⟩
  rw [hA]
  clear hA
  obtain ⟨f, Hf⟩ : ∃ f : Nat → El, Hid ((fun k => ev k W x) = f) := ⟨_, rfl⟩
  have f0 : Hid (f 0 = 0) := by rw [← Hf.out]; rfl
  have fs : Hid (∀ k, f (k + 1) = f k ^^^ mu (W k) (pwr x k)) := by rw [← Hf.out]; exact fun k => rfl
  have fe : Hid (f 39 = R) := by rw [← Hf.out]; exact HR.out
  clear HR Hf
  go_enter Tryz.func52, Tryz.ntmps52
  go_wp2
  obtain ⟨V, hV⟩ : ∃ V, w.alloc (.cells A 52) = V := ⟨_, rfl⟩
  have hcell : Hid (Arr V w.heap.size 39 W) := by rw [← hV]; exact hAn.out _
  have hB : Below w.heap.size w V := by rw [← hV]; exact (Below.refl _ w).alloc (Nat.le_refl _) _
  rw [hV]
  clear hV hAn
  go_loop [5, 6, 7] (fun a b c => ∃ (k : Nat) (s p : El), k ≤ 39 ∧ Hid (s = f k) ∧ Hid (p = pwr x k) ∧ a = .int .u8 (oe s) ∧ b = .int .u8 (oe p) ∧ c = .int .i64 (k : Int)) (fun _ _ c => 39 - (intOf c).toNat)
  case atStart => exact ⟨0, 0, 1, by omega, f0.out.symm, rfl, rfl, rfl, rfl⟩
  case round =>
    obtain ⟨k, s, p, hk, Hs, Hp, rfl, rfl, rfl⟩ := hrel
    by_cases hlt : k < 39
    · have cell := hcell.out k hlt
      obtain ⟨u, Hu⟩ : ∃ u, Hid (W k = u) := ⟨_, rfl⟩
      rw [Hu.out] at cell
      obtain ⟨m, Hm⟩ : ∃ m, Hid (mu u p = m) := ⟨_, rfl⟩
      obtain ⟨q, Hq⟩ : ∃ q, Hid (mu p x = q) := ⟨_, rfl⟩
      have c1 : Hid (∀ w, Calls Tryz.prog 53 #[.int .u8 (oe u), .int .u8 (oe p)] w fun e w' => e = .returned (.int .u8 (oe m)) ∧ w' = w) := fun w => by rw [← Hm.out]; exact mulE_any u p w
      have c2 : Hid (∀ w, Calls Tryz.prog 53 #[.int .u8 (oe p), .int .u8 (oe x)] w fun e w' => e = .returned (.int .u8 (oe q)) ∧ w' = w) := fun w => by rw [← Hq.out]; exact mulE_any p x w
      have ex := oe_xor s m
      have Hs' : Hid (s ^^^ m = f (k + 1)) := by show _ = _; rw [fs.out k, Hs.out, ← Hm.out, Hp.out, Hu.out]
      have Hq' : Hid (q = pwr x (k + 1)) := by show _ = _; rw [← Hq.out, Hp.out]; rfl
      obtain ⟨t, Ht⟩ : ∃ t, s ^^^ m = t := ⟨_, rfl⟩
      rw [Ht] at ex Hs'
      clear Ht
      go_wp2_with fail
      refine (c1.out _).mono ?_
      rintro e w' ⟨rfl, rfl⟩
      go_wp2_with fail
      refine (c2.out _).mono ?_
      rintro e w' ⟨rfl, rfl⟩
      go_wp2
      go_round
      case rel => exact ⟨k + 1, t, q, by omega, Hs', Hq', rfl, rfl, by go_num⟩
      case measure => simp [intOf]; omega
    · obtain rfl : k = 39 := by omega
      have hs : s = R := Hs.out.trans fe.out
      subst hs
      clear Hs fe
      go_wp2
      go_ret
      exact ⟨rfl, hB⟩

/-- the 39 symbols -/
def wd (F G : Nat → El) (i : Nat) : El := if i < 36 then F i else G (i - 36)
theorem zero39 (w : World) : (zeroValue 52).run Tryz.prog w = .ok (.agg (arr 39 fun _ => 0).toArray) w := by kernel_rfl
theorem below_put5 {B b : Nat} (hb : B ≤ b) : ∀ (vs : List Value) (o : Nat) {a w : World}, Below B a w → Below B a (w.setCells b o vs)
  | [], _, _, _, h => h
  | v :: vs, o, _, _, h => below_put5 hb vs (o + 1) (h.setCell (p := ⟨b, o, none⟩) hb v)
theorem ArrW.new (W : World) (n : Nat) (F : Nat → El) (t : TypeId) : ArrW (W.alloc (.cells (arr n F).toArray t)) W.heap.size n F :=
  ⟨Arr.new W n F t, fun i _ => by simp⟩
theorem ArrW.alloc {W : World} {b n : Nat} {F : Nat → El} (h : ArrW W b n F) (hb : b < W.heap.size) (o : Obj) : ArrW (W.alloc o) b n F := h.of (Below.heap_alloc W o b hb)
/-- between two rounds of Word: what is laid of the word is X -/
structure WdI (B C D E : Nat) (F G X : Nat → El) (w wr : World) : Prop where
  a : Arr wr B 36 F
  b : Arr wr C 3 G
  r : ArrW wr D 39 (fun _ => 0)
  o : ArrW wr E 39 X
  below : Below B w wr
theorem WdI.set {B C D E : Nat} {F G X : Nat → El} {w wr : World} (h : WdI B C D E F G X w wr) (hB : B < E) (hC : C < E) (hD : D < E) (i : Nat) (hi : i < 39) (e : El) : WdI B C D E F G (fun k => if k = i then e else X k) w (wr.setCell ⟨E, i, none⟩ (.int .u8 (oe e))) :=
  ⟨h.a.of (Below.heap_setCell wr ⟨E, i, none⟩ _ B (by simp; omega)), h.b.of (Below.heap_setCell wr ⟨E, i, none⟩ _ C (by simp; omega)), h.r.of (Below.heap_setCell wr ⟨E, i, none⟩ _ D (by simp; omega)), h.o.set i hi e, h.below.setCell (p := ⟨E, i, none⟩) (by simp; omega) _⟩
theorem WdI.congr {B C D E : Nat} {F G X Y : Nat → El} {w wr : World} (h : WdI B C D E F G X w wr) (k : ∀ i, i < 39 → X i = Y i) : WdI B C D E F G Y w wr :=
  ⟨h.a, h.b, h.r, ⟨h.o.at_.congr k, h.o.free⟩, h.below⟩

set_option maxRecDepth 100000 in
set_option maxHeartbeats 1000000 in
theorem refWord_any (F G : Nat → El) (w : World) :
    Calls Tryz.prog 23 #[.agg (arr 36 F).toArray, .agg (arr 3 G).toArray] w fun e w' => e = .returned (.agg (arr 39 (wd F G)).toArray) ∧ Below w.heap.size w w' := by
  have hz := zero39
  obtain ⟨A0, hA0⟩ : ∃ A, (arr 36 F).toArray = A := ⟨_, rfl⟩
  obtain ⟨A1, hA1⟩ : ∃ A, (arr 3 G).toArray = A := ⟨_, rfl⟩
  obtain ⟨A2, hA2⟩ : ∃ A, (arr 39 fun _ => 0).toArray = A := ⟨_, rfl⟩
  rw [hA2] at hz
  rw [hA0, hA1]
  go_enter Tryz.func23, Tryz.ntmps23
  go_wp2
  obtain ⟨V, hV⟩ : ∃ V, (((w.alloc (.cells A0 49)).alloc (.cells A1 54)).alloc (.cells A2 52)).alloc (.cells A2 52) = V := ⟨_, rfl⟩
  have hI : WdI w.heap.size (w.heap.size + 1) (w.heap.size + 1 + 1) (w.heap.size + 1 + 1 + 1) F G (fun _ => 0) w V := by
    rw [← hV, ← hA0, ← hA1, ← hA2]
    have h0 := Arr.new w 36 F 49
    have h1 := Arr.new (w.alloc (.cells (arr 36 F).toArray 49)) 3 G 54
    have h2 := ArrW.new ((w.alloc (.cells (arr 36 F).toArray 49)).alloc (.cells (arr 3 G).toArray 54)) 39 (fun _ => 0) 52
    have h3 := ArrW.new (((w.alloc (.cells (arr 36 F).toArray 49)).alloc (.cells (arr 3 G).toArray 54)).alloc (.cells (arr 39 fun _ => 0).toArray 52)) 39 (fun _ => 0) 52
    simp only [World.size_alloc] at h1 h2 h3
    exact ⟨((h0.alloc (by simp) _).alloc (by simp; omega) _).alloc (by simp; omega) _, (h1.alloc (by simp) _).alloc (by simp) _, h2.alloc (by simp) _, h3, ((((Below.refl _ w).alloc (Nat.le_refl _) _).alloc (by simp) _).alloc (by simp; omega) _).alloc (by simp; omega) _⟩
  obtain ⟨B, hB⟩ : ∃ B, w.heap.size = B := ⟨_, rfl⟩
  obtain ⟨C, hC⟩ : ∃ C, B + 1 = C := ⟨_, rfl⟩
  obtain ⟨D, hD⟩ : ∃ D, C + 1 = D := ⟨_, rfl⟩
  obtain ⟨E, hE⟩ : ∃ E, D + 1 = E := ⟨_, rfl⟩
  rw [hV]
  rw [hB, hC, hD, hE] at hI ⊢
  have nB : B < E := by omega
  have nC : C < E := by omega
  have nD : D < E := by omega
  have nBD : B ≤ D := by omega
  have HI : Hid (WdI B C D E F G (fun _ => 0) w V) := hI
  clear hV hA0 hA1 hA2 hz hI hC hD hE
  go_loopw [6] (fun i wr => ∃ k : Nat, k ≤ 36 ∧ i = .int .i64 (k : Int) ∧ Hid (WdI B C D E F G (fun i => if i < k then F i else 0) w wr)) (fun i _ => 36 - (intOf i).toNat)
  case atStart => exact ⟨0, by omega, rfl, HI⟩
  case round =>
    obtain ⟨k, hk, rfl, HK⟩ := hrel
    by_cases hlt : k < 36
    · have c0 := HK.out.a k hlt
      have c1 := HK.out.o.at_ k (by omega)
      have c2 := HK.out.o.free k (by omega)
      have HN : Hid (WdI B C D E F G (fun i => if i < k + 1 then F i else 0) w (wr.setCell ⟨E, k, none⟩ (.int .u8 (oe (F k))))) := (HK.out.set nB nC nD k (by omega) (F k)).congr fun i _ => by
        show (if i = k then F k else if i < k then F i else 0) = if i < k + 1 then F i else 0
        by_cases h : i = k
        · rw [if_pos h, if_pos (by omega), h]
        · rw [if_neg h]
          by_cases h2 : i < k
          · rw [if_pos h2, if_pos (by omega)]
          · rw [if_neg h2, if_neg (by omega)]
      go_wp2
      go_roundw
      case rel => exact ⟨k + 1, by omega, by go_num, HN⟩
      case measure => simp [intOf]; omega
    · obtain rfl : k = 36 := by omega
      clear HI
      go_wp2
      go_loopw [7] (fun i wr => ∃ k : Nat, k ≤ 3 ∧ i = .int .i64 (k : Int) ∧ Hid (WdI B C D E F G (fun i => if i < 36 then F i else if i < 36 + k then G (i - 36) else 0) w wr)) (fun i _ => 3 - (intOf i).toNat)
      case atStart =>
        refine ⟨0, by omega, rfl, HK.out.congr fun i _ => ?_⟩
        by_cases h : i < 36
        · rw [if_pos h, if_pos h]
        · rw [if_neg h, if_neg h, if_neg (by omega)]
      case round =>
        obtain ⟨k, hk, rfl, HK⟩ := hrel
        by_cases hlt : k < 3
        · have c0 := HK.out.b k hlt
          have c1 := HK.out.o.at_ (36 + k) (by omega)
          have c2 := HK.out.o.free (36 + k) (by omega)
          have HN : Hid (WdI B C D E F G (fun i => if i < 36 then F i else if i < 36 + (k + 1) then G (i - 36) else 0) w (wr.setCell ⟨E, 36 + k, none⟩ (.int .u8 (oe (G k))))) := (HK.out.set nB nC nD (36 + k) (by omega) (G k)).congr fun i _ => by
            show (if i = 36 + k then G k else if i < 36 then F i else if i < 36 + k then G (i - 36) else 0) = if i < 36 then F i else if i < 36 + (k + 1) then G (i - 36) else 0
            by_cases h : i = 36 + k
            · rw [if_pos h, if_neg (by omega), if_pos (by omega), h, show 36 + k - 36 = k from by omega]
            · rw [if_neg h]
              by_cases h1 : i < 36
              · rw [if_pos h1, if_pos h1]
              · rw [if_neg h1, if_neg h1]
                by_cases h2 : i < 36 + k
                · rw [if_pos h2, if_pos (by omega)]
                · rw [if_neg h2, if_neg (by omega)]
          go_wp2
          go_roundw
          case rel => exact ⟨k + 1, by omega, by go_num, HN⟩
          case measure => simp [intOf]; omega
        · obtain rfl : k = 3 := by omega
          have HE : WdI B C D E F G (wd F G) w wr := HK.out.congr fun i hi => by
            unfold wd
            by_cases h1 : i < 36
            · rw [if_pos h1, if_pos h1]
            · rw [if_neg h1, if_neg h1, if_pos (by omega)]
          have hr := HE.o.at_.range
          have ht : wr.there D 0 (arr 39 (wd F G)).toArray.size := by
            rw [show (arr 39 (wd F G)).toArray.size = 39 from by simp [arr_len]]
            exact HE.r.there
          have hi9 : (Tryz.prog.info? 52).map (·.size) = some (arr 39 (wd F G)).length := by rw [arr_len]; exact info39
          have hone := arr_one 39 (wd F G)
          have HB : Hid (Below B w wr) := HE.below
          obtain ⟨L, hL⟩ : ∃ L, arr 39 (wd F G) = L := ⟨_, rfl⟩
          rw [hL] at hr ht hi9 hone
          have HL : Hid (arr 39 (wd F G) = L) := hL
          clear HK HE hL
          go_wp2_with (first | refine wpList_load_mid rfl 52 _ rfl _ 0 rfl L _ hr Tryz.underlying52 rfl hi9 ?_ | refine wpList_store_mid rfl 52 _ _ rfl _ 0 L.toArray rfl rfl ht hi9 hone ?_)
          have hs : (wr.setCells D 0 L).rangeAt D 0 L := World.rangeAt_setCells_same wr _ 0 L (by simpa using ht)
          have hld := run_loadVar_mid (P := Tryz.prog) (wr.setCells D 0 L) D 0 52 L _ hs Tryz.underlying52 rfl hi9
          refine bodyPost_ret (v := .agg L.toArray) ?_ rfl ⟨by rw [HL.out], by rw [hB]; exact below_put5 nBD L 0 HB.out⟩
          simp [results, Tryz.f23, Act.put, asAddr, hld]
end Go.Proofs.YtoimbjbdkkohcaaGreatDoor
