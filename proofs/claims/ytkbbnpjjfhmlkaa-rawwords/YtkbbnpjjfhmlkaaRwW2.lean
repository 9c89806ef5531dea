/-
  Whose a bit is; how many bits, or bytes, of two words are unlike.
-/
import Derived.Test.YtkbbnpjjfhmlkaaRwW1
import Derived.Test.YtkbbnpjjfhmlkaaBitW7
import Derived.Test.YtkbbnpjjfhmlkaaAry
import Derived.OwnWalk
import Derived.Deep.DeepCutAuto
namespace Go.Proofs.Ytkbbnpjjfhmlkaa
open Go.RowKit
open Bm (wt wtK)
attribute [local go_sem] Oper.semAt_some

theorem whose_no {m n k : Int} (h : Md m n k) (b : Int) (hb : n = 0 ∨ ¬ (0 ≤ b ∧ b < 576)) (w : World) :
    Calls Try.prog 24 #[.int .i64 m, .int .i64 b] w fun e w' => e = .returned (.tuple #[.int .i64 0, .int .i64 0, .int .i64 12]) ∧ w' = w := by
  by_cases h0 : 0 < n
  · have hr := right9_any h
    rw [show decide (0 < n) = true by simpa using h0] at hr
    have hl := below9_no b 576 (by omega)
    go_enter Try.func24, Try.ntmps24
    go_wp2_with (first | (go_at_call 10; refine (hr _).mono ?_; rintro e w' ⟨rfl, rfl⟩) | (go_at_call 25; refine (hl _).mono ?_; rintro e w' ⟨rfl, rfl⟩))
    go_ret3
    exact ⟨rfl, rfl⟩
  · have hr := right9_any h
    rw [show decide (0 < n) = false by simpa using h0] at hr
    go_enter Try.func24, Try.ntmps24
    go_wp2_with (first | (go_at_call 10; refine (hr _).mono ?_; rintro e w' ⟨rfl, rfl⟩))
    go_ret3
    exact ⟨rfl, rfl⟩
theorem whose_yes {m n k : Int} (h : Md m n k) (b : Int) (h0 : 0 < n) (hb0 : 0 ≤ b) (hb : b < 576) (w : World) :
    Calls Try.prog 24 #[.int .i64 m, .int .i64 b] w fun e w' => e = .returned (.tuple #[.int .i64 (b / 8 / n), .int .i64 (b / 8 % n), .int .i64 0]) ∧ ∃ q, w' = w.drewN q := by
  have hr := right9_any h
  have hcc := countChips_any h
  rw [show decide (0 < n) = true by simpa using h0] at hr
  have hl := below9_yes b 576 ⟨hb0, hb⟩
  have e1 : b.tdiv 8 = b / 8 := Int.tdiv_eq_ediv_of_nonneg hb0
  obtain ⟨x, hx, hx1, hx2⟩ : ∃ x, b / 8 = x ∧ 0 ≤ x ∧ x < 72 := ⟨_, rfl, by omega, by omega⟩
  rw [hx] at e1 ⊢
  rcases h with ⟨rfl, rfl, rfl⟩ | ⟨rfl, rfl, rfl⟩ | ⟨_, _, rfl, rfl⟩
  · skip
    have e2 : x.tdiv 9 = x / 9 := Int.tdiv_eq_ediv_of_nonneg hx1
    have e3 : x.tmod 9 = x % 9 := Int.tmod_eq_emod_of_nonneg hx1
    go_enter Try.func24, Try.ntmps24
    go_wp2_with (first | (go_at_call 10; refine (hr _).mono ?_; rintro e w' ⟨rfl, rfl⟩) | (go_at_call 25; refine (hl _).mono ?_; rintro e w' ⟨rfl, rfl⟩))
    go_quiet ((go_at_call 11; exact Calls.quiet_of_same (hcc _)))
    go_wp2
    go_ret3
    exact ⟨rfl, ⟨_, rfl⟩⟩
  · skip
    have e2 : x.tdiv 36 = x / 36 := Int.tdiv_eq_ediv_of_nonneg hx1
    have e3 : x.tmod 36 = x % 36 := Int.tmod_eq_emod_of_nonneg hx1
    go_enter Try.func24, Try.ntmps24
    go_wp2_with (first | (go_at_call 10; refine (hr _).mono ?_; rintro e w' ⟨rfl, rfl⟩) | (go_at_call 25; refine (hl _).mono ?_; rintro e w' ⟨rfl, rfl⟩))
    go_quiet ((go_at_call 11; exact Calls.quiet_of_same (hcc _)))
    go_wp2
    go_ret3
    exact ⟨rfl, ⟨_, rfl⟩⟩
  · omega

/-- n bytes of a block, as functions of Nat -/
def pc (F : Nat → Int) (o n j : Nat) : Nat := if j < n then (F (o + j)).toNat else 0
theorem pc_sl (F : Nat → Int) (w : World) (A o n c : Nat) (hF : Byts 72 F) (h : Bk .u8 w A 72 F) (hn : o + n ≤ 72) (hc : n ≤ c) : Sl w (some ⟨A, o, none⟩) n c (pc F o n) :=
  ⟨fun _ => ⟨A, o, rfl, fun j hj => by
    have := hF (o + j) (by omega)
    rw [h.cell (o + j) (by omega)]
    unfold pc
    rw [if_pos hj]
    congr 2; omega⟩, fun j => by
    unfold pc
    split
    · have := hF (o + j) (by omega); omega
    · decide, fun j hj => by unfold pc; rw [if_neg (by omega)], hc, fun e => by cases e⟩
theorem pc_byt (F : Nat → Int) (o n j : Nat) (hF : Byts 72 F) (hn : o + n ≤ 72) : pc F o n j < 256 := by
  unfold pc
  split
  · have := hF (o + j) (by omega); omega
  · decide
theorem dif_sm (F G : Nat → Int) (o n : Nat) (hF : Byts 72 F) (hG : Byts 72 G) (hn : o + n ≤ 72) : ∀ j, j ≤ n → dif (pc F o n) (pc G o n) (8 * j) = Rw.sm 1 F G o j
  | 0, _ => rfl
  | j + 1, hj => by
    rw [dif_byte _ _ j (pc_byt F o n j hF hn) (pc_byt G o n j hG hn), dif_sm F G o n hF hG hn j (by omega), Rw.sm]
    unfold Rw.dl pc
    rw [if_pos rfl, if_pos (by omega), if_pos (by omega)]

set_option maxHeartbeats 1000000 in
theorem unlike1 (F G : Nat → Int) (hF : Byts 72 F) (hG : Byts 72 G) (A B o c d : Nat) (ho : o + 9 ≤ 72) (hc : 9 ≤ c) (hd : 9 ≤ d) (w : World) (hA : Bk .u8 w A 72 F) (hB : Bk .u8 w B 72 G) :
    Calls Try.prog 29 #[.int .i64 1, .slice (some ⟨A, o, none⟩) 9 c, .slice (some ⟨B, o, none⟩) 9 d] w fun e w' => e = .returned (.int .i64 (Rw.sm 1 F G o 9 : Int)) ∧ ∃ q, w' = w.drewN q := by
  have hD := differ_any (some ⟨A, o, none⟩) 9 c (pc F o 9) (some ⟨B, o, none⟩) 9 d (pc G o 9) (by omega) (by omega) w (pc_sl F w A o 9 c hF hA ho hc) (pc_sl G w B o 9 d hG hB ho hd)
  rw [show 8 * (max 9 9 - min 9 9) + dif (pc F o 9) (pc G o 9) (8 * min 9 9) = Rw.sm 1 F G o 9 from by have := dif_sm F G o 9 hF hG ho 9 (Nat.le_refl _); simp at this ⊢; exact this] at hD
  obtain ⟨s, Hs⟩ : ∃ s, Hid (Rw.sm 1 F G o 9 = s) := ⟨_, rfl⟩
  rw [Hs.out] at hD ⊢
  have HD : Hid (Calls Try.prog 34 #[.slice (some ⟨A, o, none⟩) 9 c, .slice (some ⟨B, o, none⟩) 9 d] w fun e w' => e = .returned (.int .i64 (s : Int)) ∧ ∃ q, w' = w.drewN q) := hD
  clear hD
  go_enter Try.func29, Try.ntmps29
  go_wp2_with fail
  refine HD.out.mono ?_
  rintro e w1 ⟨rfl, hq⟩
  go_wp2
  go_ret
  exact ⟨rfl, hq⟩
set_option maxHeartbeats 1000000 in
theorem unlike2 (F G : Nat → Int) (A B o c d : Nat) (ho : o + 36 ≤ 72) (w : World) (hA : Bk .u8 w A 72 F) (hB : Bk .u8 w B 72 G) :
    Calls Try.prog 29 #[.int .i64 2, .slice (some ⟨A, o, none⟩) 36 c, .slice (some ⟨B, o, none⟩) 36 d] w fun e w' => e = .returned (.int .i64 (Rw.sm 2 F G o 36 : Int)) ∧ ∃ q, w' = w.drewN q := by
  obtain ⟨s, Hs⟩ : ∃ s, Hid (Rw.sm 2 F G o 36 = s) := ⟨_, rfl⟩
  rw [Hs.out]
  have HA : Hid (Bk .u8 w A 72 F) := hA
  have HB : Hid (Bk .u8 w B 72 G) := hB
  clear hA hB
  go_enter Try.func29, Try.ntmps29
  go_wp2
  go_loopw [7, 16] (fun cv iv wr => ∃ i t : Nat, i ≤ 36 ∧ t ≤ i ∧ Hid (Rw.sm 2 F G o i = t) ∧ cv = .int .i64 (t : Int) ∧ iv = .int .i64 (i : Int) ∧ Hid (∃ q, wr = w.drewN q)) (fun _ iv _ => 36 - (intOf iv).toNat)
  case atStart => exact ⟨0, 0, by omega, by omega, rfl, rfl, rfl, ⟨0, rfl⟩⟩
  case round =>
    obtain ⟨i, t, hi, ht, Ht, rfl, rfl, Hq⟩ := hrel
    by_cases hlt : i < 36
    · have ca : wr.cell? ⟨A, o + i, none⟩ = some (.int .u8 (F (o + i))) := by obtain ⟨q, rfl⟩ := Hq.out; exact HA.out.cell (o + i) (by omega)
      have cb : wr.cell? ⟨B, o + i, none⟩ = some (.int .u8 (G (o + i))) := by obtain ⟨q, rfl⟩ := Hq.out; exact HB.out.cell (o + i) (by omega)
      have hst : Rw.sm 2 F G o (i + 1) = Rw.sm 2 F G o i + (if F (o + i) = G (o + i) then 0 else 1) := by rw [Rw.sm]; rfl
      rw [Ht.out] at hst
      obtain ⟨x, Hx⟩ : ∃ x, Hid (F (o + i) = x) := ⟨_, rfl⟩
      obtain ⟨y, Hy⟩ : ∃ y, Hid (G (o + i) = y) := ⟨_, rfl⟩
      rw [Hx.out] at ca hst
      rw [Hy.out] at cb hst
      by_cases hxy : x = y
      · have hne : (x != y) = false := by simp [hxy]
        rw [if_pos hxy] at hst
        have Hst : Hid (Rw.sm 2 F G o (i + 1) = t) := hst
        clear hst hxy
        go_wp2
        go_quiet (fail)
        go_wp2
        go_roundw
        case rel => exact ⟨i + 1, t, by omega, by omega, Hst, rfl, by go_num, by obtain ⟨q, rfl⟩ := Hq.out; exact ⟨_, World.drewN_drewN _ _ _⟩⟩
        case measure => simp [intOf]; omega
      · have hne : (x != y) = true := by simp [hxy]
        rw [if_neg hxy] at hst
        have Hst : Hid (Rw.sm 2 F G o (i + 1) = t + 1) := hst
        clear hst hxy
        go_wp2
        go_quiet (fail)
        go_wp2
        go_roundw
        case rel => exact ⟨i + 1, t + 1, by omega, by omega, Hst, by go_num, by go_num, by obtain ⟨q, rfl⟩ := Hq.out; exact ⟨_, World.drewN_drewN _ _ _⟩⟩
        case measure => simp [intOf]; omega
    · obtain rfl : i = 36 := by omega
      have e : t = s := by rw [← Hs.out, Ht.out]
      subst e
      go_wp2
      go_ret
      exact ⟨rfl, Hq.out⟩
end Go.Proofs.Ytkbbnpjjfhmlkaa
