/-
  Whose a bit is; how many bits, or bytes, of two words are unlike.
-/
import Derived.Test.YtcpjmfemgdgplaaRwW1
import Derived.Test.YtcpjmfemgdgplaaBitW7
import Derived.Test.YtcpjmfemgdgplaaAry
import Derived.OwnWalk
import Derived.Deep.DeepCutAuto
namespace Go.Proofs.Ytcpjmfemgdgplaa
open Go.RowKit
open Bm (wt wtK)
attribute [local go_sem] Oper.semAt_some

theorem whose_no {m n k : Int} (h : Md m n k) (b : Int) (hb : n = 0 ∨ ¬ (0 ≤ b ∧ b < 576)) (w : World) :
    Calls Try.prog 55 #[.int .i64 m, .int .i64 b] w fun e w' => e = .returned (.tuple #[.int .i64 0, .int .i64 0, .int .i64 12]) ∧ w' = w := by
  by_cases h0 : 0 < n
  · have hr := right9_any h
    rw [show decide (0 < n) = true by simpa using h0] at hr
    have hl := below9_no b 576 (by omega)
    go_enter Try.func55, Try.ntmps55
    go_wp2_with (first | (go_at_call 35; refine (hr _).mono ?_; rintro e w' ⟨rfl, rfl⟩) | (go_at_call 76; refine (hl _).mono ?_; rintro e w' ⟨rfl, rfl⟩))
    go_ret3
    exact ⟨rfl, rfl⟩
  · have hr := right9_any h
    rw [show decide (0 < n) = false by simpa using h0] at hr
    go_enter Try.func55, Try.ntmps55
    go_wp2_with (first | (go_at_call 35; refine (hr _).mono ?_; rintro e w' ⟨rfl, rfl⟩))
    go_ret3
    exact ⟨rfl, rfl⟩
theorem whose_yes {m n k : Int} (h : Md m n k) (b : Int) (h0 : 0 < n) (hb0 : 0 ≤ b) (hb : b < 576) (w : World) :
    Calls Try.prog 55 #[.int .i64 m, .int .i64 b] w fun e w' => e = .returned (.tuple #[.int .i64 (b / 8 / n), .int .i64 (b / 8 % n), .int .i64 0]) ∧ ∃ q, w' = w.drewN q := by
  have hr := right9_any h
  have hcc := countChips_any h
  rw [show decide (0 < n) = true by simpa using h0] at hr
  have hl := below9_yes b 576 ⟨hb0, hb⟩
  have e1 : b.tdiv 8 = b / 8 := Int.tdiv_eq_ediv_of_nonneg hb0
  obtain ⟨x, hx, hx1, hx2⟩ : ∃ x, b / 8 = x ∧ 0 ≤ x ∧ x < 72 := ⟨_, rfl, by omega, by omega⟩
  rw [hx] at e1 ⊢
  rcases h with ⟨rfl, rfl, rfl⟩ | ⟨rfl, rfl, rfl⟩ | ⟨_, _, rfl, rfl⟩
  · skip
    have e2 : x.tdiv 9 = x / 9 := Int.tdiv_eq_ediv_of_nonneg hx1
    have e3 : x.tmod 9 = x % 9 := Int.tmod_eq_emod_of_nonneg hx1
    go_enter Try.func55, Try.ntmps55
    go_wp2_with (first | (go_at_call 35; refine (hr _).mono ?_; rintro e w' ⟨rfl, rfl⟩) | (go_at_call 76; refine (hl _).mono ?_; rintro e w' ⟨rfl, rfl⟩))
    go_quiet ((go_at_call 57; exact Calls.quiet_of_same (hcc _)))
    go_wp2
    go_ret3
    exact ⟨rfl, ⟨_, rfl⟩⟩
  · skip
    have e2 : x.tdiv 36 = x / 36 := Int.tdiv_eq_ediv_of_nonneg hx1
    have e3 : x.tmod 36 = x % 36 := Int.tmod_eq_emod_of_nonneg hx1
    go_enter Try.func55, Try.ntmps55
    go_wp2_with (first | (go_at_call 35; refine (hr _).mono ?_; rintro e w' ⟨rfl, rfl⟩) | (go_at_call 76; refine (hl _).mono ?_; rintro e w' ⟨rfl, rfl⟩))
    go_quiet ((go_at_call 57; exact Calls.quiet_of_same (hcc _)))
    go_wp2
    go_ret3
    exact ⟨rfl, ⟨_, rfl⟩⟩
  · omega

/-- n bytes of a block, as functions of Nat -/
def pc (F : Nat → Int) (o n j : Nat) : Nat := if j < n then (F (o + j)).toNat else 0
theorem pc_sl (F : Nat → Int) (w : World) (A o n c : Nat) (hF : Byts 72 F) (h : Bk .u8 w A 72 F) (hn : o + n ≤ 72) (hc : n ≤ c) : Sl w (some ⟨A, o, none⟩) n c (pc F o n) :=
  ⟨fun _ => ⟨A, o, rfl, fun j hj => by
    have := hF (o + j) (by omega)
    rw [h.cell (o + j) (by omega)]
    unfold pc
    rw [if_pos hj]
    congr 2; omega⟩, fun j => by
    unfold pc
    split
    · have := hF (o + j) (by omega); omega
    · decide, fun j hj => by unfold pc; rw [if_neg (by omega)], hc, fun e => by cases e⟩
theorem pc_byt (F : Nat → Int) (o n j : Nat) (hF : Byts 72 F) (hn : o + n ≤ 72) : pc F o n j < 256 := by
  unfold pc
  split
  · have := hF (o + j) (by omega); omega
  · decide
theorem dif_sm (F G : Nat → Int) (o n : Nat) (hF : Byts 72 F) (hG : Byts 72 G) (hn : o + n ≤ 72) : ∀ j, j ≤ n → dif (pc F o n) (pc G o n) (8 * j) = Rw.sm 1 F G o j
  | 0, _ => rfl
  | j + 1, hj => by
    rw [dif_byte _ _ j (pc_byt F o n j hF hn) (pc_byt G o n j hG hn), dif_sm F G o n hF hG hn j (by omega), Rw.sm]
    unfold Rw.dl pc
    rw [if_pos rfl, if_pos (by omega), if_pos (by omega)]

end Go.Proofs.Ytcpjmfemgdgplaa
