/-
  The leaves of package raw: which modes there are, how many chips and words, where a byte stands, whose a bit is; the document's count of chips.
-/
import Derived.Test.YtcpjmfemgdgplaaRows
import Derived.Test.YtcpjmfemgdgplaaRwMath
import Derived.Test.YtcpjmfemgdgplaaRange
import Derived.WalkKit
import Derived.WalkSpells
import Derived.WalkLawsBesides
import Derived.Deep.QuietTactic
import Derived.BigQuiet
namespace Go.Proofs.Ytcpjmfemgdgplaa
open Go.RowKit

/-- a mode, its chips and its words -/
def Md (m n k : Int) : Prop := (m = 1 ∧ n = 9 ∧ k = 8) ∨ (m = 2 ∧ n = 36 ∧ k = 2) ∨ (m ≠ 1 ∧ m ≠ 2 ∧ n = 0 ∧ k = 0)
theorem Md.bits : Md 1 9 8 := .inl ⟨rfl, rfl, rfl⟩
theorem Md.chips : Md 2 36 2 := .inr (.inl ⟨rfl, rfl, rfl⟩)
theorem Md.none (m : Int) (h1 : m ≠ 1) (h2 : m ≠ 2) : Md m 0 0 := .inr (.inr ⟨h1, h2, rfl, rfl⟩)
theorem md_any (m : Int) : ∃ n k, Md m n k := by
  by_cases h1 : m = 1
  · subst h1; exact ⟨_, _, .bits⟩
  · by_cases h2 : m = 2
    · subst h2; exact ⟨_, _, .chips⟩
    · exact ⟨_, _, .none m h1 h2⟩

theorem countChips_any {m n k : Int} (h : Md m n k) (w : World) :
    Calls Try.prog 57 #[.int .i64 m] w fun e w' => e = .returned (.int .i64 n) ∧ w' = w := by
  rcases h with ⟨rfl, rfl, rfl⟩ | ⟨rfl, rfl, rfl⟩ | ⟨h1, h2, rfl, rfl⟩
  · skip
    go_enter Try.func57, Try.ntmps57
    go_wp2
    go_ret
    exact ⟨rfl, rfl⟩
  · skip
    go_enter Try.func57, Try.ntmps57
    go_wp2
    go_ret
    exact ⟨rfl, rfl⟩
  · skip
    have d1 : (m == 1) = false := by simpa using h1
    have d2 : (m == 2) = false := by simpa using h2
    go_enter Try.func57, Try.ntmps57
    go_wp2
    go_ret
    exact ⟨rfl, rfl⟩

theorem refChips_any {m n k : Int} (h : Md m n k) (w : World) :
    Calls Try.prog 52 #[.int .i64 m] w fun e w' => e = .returned (.int .i64 n) ∧ w' = w := by
  rcases h with ⟨rfl, rfl, rfl⟩ | ⟨rfl, rfl, rfl⟩ | ⟨h1, h2, rfl, rfl⟩
  · skip
    go_enter Try.func52, Try.ntmps52
    go_wp2
    go_ret
    exact ⟨rfl, rfl⟩
  · skip
    go_enter Try.func52, Try.ntmps52
    go_wp2
    go_ret
    exact ⟨rfl, rfl⟩
  · skip
    have d1 : (m == 1) = false := by simpa using h1
    have d2 : (m == 2) = false := by simpa using h2
    go_enter Try.func52, Try.ntmps52
    go_wp2
    go_ret
    exact ⟨rfl, rfl⟩

theorem right9_any {m n k : Int} (h : Md m n k) (w : World) :
    Calls Try.prog 35 #[.int .i64 m] w fun e w' => e = .returned (.bool (decide (0 < n))) ∧ w' = w := by
  rcases h with ⟨rfl, rfl, rfl⟩ | ⟨rfl, rfl, rfl⟩ | ⟨h1, h2, rfl, rfl⟩
  · skip
    go_enter Try.func35, Try.ntmps35
    go_wp2
    go_ret
    exact ⟨rfl, rfl⟩
  · skip
    go_enter Try.func35, Try.ntmps35
    go_wp2
    go_ret
    exact ⟨rfl, rfl⟩
  · skip
    have d1 : (m == 1) = false := by simpa using h1
    have d2 : (m == 2) = false := by simpa using h2
    go_enter Try.func35, Try.ntmps35
    go_wp2
    go_ret
    exact ⟨rfl, rfl⟩

theorem countWords_any {m n k : Int} (h : Md m n k) (w : World) :
    Calls Try.prog 85 #[.int .i64 m] w fun e w' => e = .returned (.int .i64 k) ∧ w' = w := by
  have hr := right9_any h
  have hc := countChips_any h
  rcases h with ⟨rfl, rfl, rfl⟩ | ⟨rfl, rfl, rfl⟩ | ⟨h1, h2, rfl, rfl⟩
  · skip
    go_enter Try.func85, Try.ntmps85
    go_wp2_with (first | (go_at_call 35; refine (hr _).mono ?_; rintro e w' ⟨rfl, rfl⟩) | (go_at_call 57; refine (hc _).mono ?_; rintro e w' ⟨rfl, rfl⟩))
    go_ret
    exact ⟨rfl, rfl⟩
  · skip
    go_enter Try.func85, Try.ntmps85
    go_wp2_with (first | (go_at_call 35; refine (hr _).mono ?_; rintro e w' ⟨rfl, rfl⟩) | (go_at_call 57; refine (hc _).mono ?_; rintro e w' ⟨rfl, rfl⟩))
    go_ret
    exact ⟨rfl, rfl⟩
  · skip
    go_enter Try.func85, Try.ntmps85
    go_wp2_with (first | (go_at_call 35; refine (hr _).mono ?_; rintro e w' ⟨rfl, rfl⟩) | (go_at_call 57; refine (hc _).mono ?_; rintro e w' ⟨rfl, rfl⟩))
    go_ret
    exact ⟨rfl, rfl⟩

theorem below9_any (a b : Int) (w : World) :
    Calls Try.prog 76 #[.int .i64 a, .int .i64 b] w fun e w' => e = .returned (.bool (decide (0 ≤ a ∧ a < b))) ∧ w' = w := by
  by_cases h1 : 0 ≤ a
  · by_cases h2 : a < b
    · have d1 : decide (0 ≤ a) = true := by simpa using h1
      have d2 : decide (a < b) = true := by simpa using h2
      have dd : decide (0 ≤ a ∧ a < b) = true := by simp [h1, h2]
      rw [dd]
      go_enter Try.func76, Try.ntmps76
      go_wp2
      go_ret
      exact ⟨rfl, rfl⟩
    · have d1 : decide (0 ≤ a) = true := by simpa using h1
      have d2 : decide (a < b) = false := by simpa using h2
      have dd : decide (0 ≤ a ∧ a < b) = false := by simp [h2]
      rw [dd]
      go_enter Try.func76, Try.ntmps76
      go_wp2
      go_ret
      exact ⟨rfl, rfl⟩
  · have d1 : decide (0 ≤ a) = false := by simpa using h1
    have dd : decide (0 ≤ a ∧ a < b) = false := by simp [h1]
    rw [dd]
    go_enter Try.func76, Try.ntmps76
    go_wp2
    go_ret
    exact ⟨rfl, rfl⟩
theorem below9_yes (a b : Int) (h : 0 ≤ a ∧ a < b) (w : World) :
    Calls Try.prog 76 #[.int .i64 a, .int .i64 b] w fun e w' => e = .returned (.bool true) ∧ w' = w := by
  have := below9_any a b w
  rwa [show decide (0 ≤ a ∧ a < b) = true by simpa using h] at this
theorem below9_no (a b : Int) (h : ¬ (0 ≤ a ∧ a < b)) (w : World) :
    Calls Try.prog 76 #[.int .i64 a, .int .i64 b] w fun e w' => e = .returned (.bool false) ∧ w' = w := by
  have := below9_any a b w
  rwa [show decide (0 ≤ a ∧ a < b) = false by simpa using h] at this

theorem placeOf9_any {m n k : Int} (h : Md m n k) (x c : Int) (hx : 0 ≤ x ∧ x ≤ 100) (hc : 0 ≤ c ∧ c ≤ 100) (w : World) :
    Calls Try.prog 86 #[.int .i64 m, .int .i64 x, .int .i64 c] w fun e w' => e = .returned (.int .i64 (x * n + c)) ∧ w' = w := by
  have hcc := countChips_any h
  obtain ⟨h1, h2⟩ := hx
  obtain ⟨h3, h4⟩ := hc
  rcases h with ⟨rfl, rfl, rfl⟩ | ⟨rfl, rfl, rfl⟩ | ⟨h5, h6, rfl, rfl⟩
  · skip
    go_enter Try.func86, Try.ntmps86
    go_wp2_with (go_at_call 57; refine (hcc _).mono ?_; rintro e w' ⟨rfl, rfl⟩)
    go_ret
    exact ⟨rfl, rfl⟩
  · skip
    go_enter Try.func86, Try.ntmps86
    go_wp2_with (go_at_call 57; refine (hcc _).mono ?_; rintro e w' ⟨rfl, rfl⟩)
    go_ret
    exact ⟨rfl, rfl⟩
  · skip
    go_enter Try.func86, Try.ntmps86
    go_wp2_with (go_at_call 57; refine (hcc _).mono ?_; rintro e w' ⟨rfl, rfl⟩)
    go_ret
    exact ⟨by first | rfl | simp, rfl⟩
end Go.Proofs.Ytcpjmfemgdgplaa
