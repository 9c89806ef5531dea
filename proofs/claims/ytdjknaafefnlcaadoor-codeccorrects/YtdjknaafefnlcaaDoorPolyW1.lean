/-
  The walks of the calls of poly that only read: Degree, trimmed, Eval; and the document's own: At, Degree, Same, Product, Eval.
-/
import Derived.Test.YtdjknaafefnlcaaDoorPolyMath
import Derived.Test.YtdjknaafefnlcaaDoorGfW6
namespace Go.Proofs.YtdjknaafefnlcaaDoor
open Go.RowKit
open Gf (eI lI gI dI pI)

/-- how long a list's first n elements are without noughts at the end -/
def tN (l : List Int) : Nat → Nat
  | 0 => 0
  | n + 1 => if l[n]?.getD 0 = 0 then tN l n else n + 1
/-- how long a list is without noughts at the end: its degree and one -/
def tl (l : List Int) : Nat := tN l l.length
theorem tN_le (l : List Int) (n : Nat) : tN l n ≤ n := by
  induction n with
  | zero => simp [tN]
  | succ n ih => simp only [tN]; split <;> omega
theorem tN_top (l : List Int) (n : Nat) (h : 0 < tN l n) : l[tN l n - 1]?.getD 0 ≠ 0 := by
  induction n with
  | zero => simp [tN] at h
  | succ n ih =>
    by_cases e : l[n]?.getD 0 = 0
    · have : tN l (n + 1) = tN l n := by simp [tN, e]
      rw [this] at h ⊢; exact ih h
    · have : tN l (n + 1) = n + 1 := by simp [tN, e]
      rw [this]; simpa using e
theorem tN_past (l : List Int) (n i : Nat) (h : tN l n ≤ i) (hi : i < n) : l[i]?.getD 0 = 0 := by
  induction n with
  | zero => omega
  | succ n ih =>
    by_cases e : l[n]?.getD 0 = 0
    · have : tN l (n + 1) = tN l n := by simp [tN, e]
      rw [this] at h
      by_cases e2 : i = n
      · subst e2; exact e
      · exact ih h (by omega)
    · have : tN l (n + 1) = n + 1 := by simp [tN, e]
      omega
theorem tl_le (l : List Int) : tl l ≤ l.length := tN_le l _
theorem tl_top (l : List Int) (h : 0 < tl l) : l[tl l - 1]?.getD 0 ≠ 0 := tN_top l _ h
theorem tl_past (l : List Int) (i : Nat) (h : tl l ≤ i) : l[i]?.getD 0 = 0 := by
  by_cases hi : i < l.length
  · exact tN_past l _ i h hi
  · rw [List.getElem?_eq_none (by omega)]; rfl
theorem tl_unique (l : List Int) (n : Nat) (h1 : 0 < n → l[n - 1]?.getD 0 ≠ 0) (h2 : ∀ i, n ≤ i → l[i]?.getD 0 = 0) : tl l = n := by
  by_cases ha : tl l < n
  · exact absurd (tl_past l (n - 1) (by omega)) (h1 (by omega))
  · by_cases hb : n < tl l
    · exact absurd (h2 (tl l - 1) (by omega)) (tl_top l (by omega))
    · omega

set_option maxHeartbeats 400000 in
theorem degree_any (a : Option Addr) (c : Nat) (l : List Int) (w : World) (sa : SlAt w a l) (ba : Byt l) (ma : l.length ≤ maxLen) :
    Calls Tryd.prog 81 #[.slice a l.length c] w fun e w' => e = .returned (.int .i64 ((tl l : Int) - 1)) ∧ w' = w := by
  unfold maxLen at ma
  go_enter Tryd.func81, Tryd.ntmps81
  go_wp2
  go_loop [3] (fun i => ∃ k : Nat, k ≤ l.length ∧ i = .int .i64 ((k : Int) - 1) ∧ Hid (tl l = tN l k)) (fun i => (intOf i + 1).toNat)
  case atStart => exact ⟨l.length, by omega, rfl, rfl⟩
  case round =>
    obtain ⟨k, hk, rfl, Hk⟩ := hrel
    cases k with
    | zero =>
      go_wp2
      go_ret
      refine ⟨ret_int ?_, rfl⟩
      rw [Hk.out]; rfl
    | succ k =>
      obtain ⟨x, h1, Hx⟩ : ∃ x, (0 ≤ x ∧ x < 256) ∧ Hid (x = l[k]?.getD 0) := ⟨_, ba k (by omega), rfl⟩
      rcases sa with sa | ⟨b1, o1, rfl, hb1, hc1⟩
      · rw [sa] at hk; simp at hk
      have c1 : w.cell? ⟨b1, o1 + k, none⟩ = some (.int .u8 x) := by rw [Hx.out]; exact hc1 k (by omega)
      clear hc1
      have e1 : (((k + 1 : Nat) : Int) - 1) = (k : Int) := by omega
      rw [e1]
      by_cases hz : x = 0
      · have hz' : (x != 0) = false := by simp [hz]
        have HZ : Hid (x = 0) := hz
        clear hz
        go_wp2
        go_round
        case rel => exact ⟨k, by omega, by go_num, by show _ = _; rw [Hk.out]; simp only [tN]; rw [← Hx.out, if_pos HZ.out]⟩
        case measure => simp [intOf]
      · have hz' : (x != 0) = true := by simp [hz]
        go_wp2
        go_ret
        refine ⟨ret_int ?_, rfl⟩
        rw [Hk.out]
        simp only [tN]
        rw [← Hx.out, if_neg hz]; omega

theorem trimmed_any (a : Option Addr) (c : Nat) (l : List Int) (w : World) (sa : SlAt w a l) (ba : Byt l) (ma : l.length ≤ maxLen) (hc : l.length ≤ c) :
    Calls Tryd.prog 86 #[.slice a l.length c] w fun e w' => e = .returned (.slice a (tl l) c) ∧ w' = w := by
  have ht := tl_le l
  have ma' := ma
  unfold maxLen at ma'
  go_enter Tryd.func86, Tryd.ntmps86
  go_wp2_with (go_at_call 81; refine (degree_any a c l _ sa ba ma).mono ?_; rintro e w' ⟨rfl, rfl⟩)
  go_ret
  exact ⟨rfl, rfl⟩




end Go.Proofs.YtdjknaafefnlcaaDoor
