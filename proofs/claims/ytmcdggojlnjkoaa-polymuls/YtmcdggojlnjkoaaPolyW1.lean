/-
  The walks of the calls of poly that only read: Degree, trimmed, Eval; and the document's own: At, Degree, Same, Product, Eval.
-/
import Derived.Test.YtmcdggojlnjkoaaPolyMath
import Derived.Test.YtmcdggojlnjkoaaGfW6
namespace Go.Proofs.Ytmcdggojlnjkoaa
open Go.RowKit
open Gf (eI lI gI dI pI)

/-- how long a list's first n elements are without noughts at the end -/
def tN (l : List Int) : Nat → Nat
  | 0 => 0
  | n + 1 => if l[n]?.getD 0 = 0 then tN l n else n + 1
/-- how long a list is without noughts at the end: its degree and one -/
def tl (l : List Int) : Nat := tN l l.length
theorem tN_le (l : List Int) (n : Nat) : tN l n ≤ n := by
  induction n with
  | zero => simp [tN]
  | succ n ih => simp only [tN]; split <;> omega
theorem tN_top (l : List Int) (n : Nat) (h : 0 < tN l n) : l[tN l n - 1]?.getD 0 ≠ 0 := by
  induction n with
  | zero => simp [tN] at h
  | succ n ih =>
    by_cases e : l[n]?.getD 0 = 0
    · have : tN l (n + 1) = tN l n := by simp [tN, e]
      rw [this] at h ⊢; exact ih h
    · have : tN l (n + 1) = n + 1 := by simp [tN, e]
      rw [this]; simpa using e
theorem tN_past (l : List Int) (n i : Nat) (h : tN l n ≤ i) (hi : i < n) : l[i]?.getD 0 = 0 := by
  induction n with
  | zero => omega
  | succ n ih =>
    by_cases e : l[n]?.getD 0 = 0
    · have : tN l (n + 1) = tN l n := by simp [tN, e]
      rw [this] at h
      by_cases e2 : i = n
      · subst e2; exact e
      · exact ih h (by omega)
    · have : tN l (n + 1) = n + 1 := by simp [tN, e]
      omega
theorem tl_le (l : List Int) : tl l ≤ l.length := tN_le l _
theorem tl_top (l : List Int) (h : 0 < tl l) : l[tl l - 1]?.getD 0 ≠ 0 := tN_top l _ h
theorem tl_past (l : List Int) (i : Nat) (h : tl l ≤ i) : l[i]?.getD 0 = 0 := by
  by_cases hi : i < l.length
  · exact tN_past l _ i h hi
  · rw [List.getElem?_eq_none (by omega)]; rfl
theorem tl_unique (l : List Int) (n : Nat) (h1 : 0 < n → l[n - 1]?.getD 0 ≠ 0) (h2 : ∀ i, n ≤ i → l[i]?.getD 0 = 0) : tl l = n := by
  by_cases ha : tl l < n
  · exact absurd (tl_past l (n - 1) (by omega)) (h1 (by omega))
  · by_cases hb : n < tl l
    · exact absurd (h2 (tl l - 1) (by omega)) (tl_top l (by omega))
    · omega

set_option maxHeartbeats 400000 in
theorem degree_any (a : Option Addr) (c : Nat) (l : List Int) (w : World) (sa : SlAt w a l) (ba : Byt l) (ma : l.length ≤ maxLen) :
    Calls Try.prog 17 #[.slice a l.length c] w fun e w' => e = .returned (.int .i64 ((tl l : Int) - 1)) ∧ w' = w := by
  unfold maxLen at ma
  go_enter Try.func17, Try.ntmps17
  go_wp2
  go_loop [3] (fun i => ∃ k : Nat, k ≤ l.length ∧ i = .int .i64 ((k : Int) - 1) ∧ Hid (tl l = tN l k)) (fun i => (intOf i + 1).toNat)
  case atStart => exact ⟨l.length, by omega, rfl, rfl⟩
  case round =>
    obtain ⟨k, hk, rfl, Hk⟩ := hrel
    cases k with
    | zero =>
      go_wp2
      go_ret
      refine ⟨ret_int ?_, rfl⟩
      rw [Hk.out]; rfl
    | succ k =>
      obtain ⟨x, h1, Hx⟩ : ∃ x, (0 ≤ x ∧ x < 256) ∧ Hid (x = l[k]?.getD 0) := ⟨_, ba k (by omega), rfl⟩
      rcases sa with sa | ⟨b1, o1, rfl, hb1, hc1⟩
      · rw [sa] at hk; simp at hk
      have c1 : w.cell? ⟨b1, o1 + k, none⟩ = some (.int .u8 x) := by rw [Hx.out]; exact hc1 k (by omega)
      clear hc1
      have e1 : (((k + 1 : Nat) : Int) - 1) = (k : Int) := by omega
      rw [e1]
      by_cases hz : x = 0
      · have hz' : (x != 0) = false := by simp [hz]
        have HZ : Hid (x = 0) := hz
        clear hz
        go_wp2
        go_round
        case rel => exact ⟨k, by omega, by go_num, by show _ = _; rw [Hk.out]; simp only [tN]; rw [← Hx.out, if_pos HZ.out]⟩
        case measure => simp [intOf]
      · have hz' : (x != 0) = true := by simp [hz]
        go_wp2
        go_ret
        refine ⟨ret_int ?_, rfl⟩
        rw [Hk.out]
        simp only [tN]
        rw [← Hx.out, if_neg hz]; omega

theorem trimmed_any (a : Option Addr) (c : Nat) (l : List Int) (w : World) (sa : SlAt w a l) (ba : Byt l) (ma : l.length ≤ maxLen) (hc : l.length ≤ c) :
    Calls Try.prog 30 #[.slice a l.length c] w fun e w' => e = .returned (.slice a (tl l) c) ∧ w' = w := by
  have ht := tl_le l
  have ma' := ma
  unfold maxLen at ma'
  go_enter Try.func30, Try.ntmps30
  go_wp2_with (go_at_call 17; refine (degree_any a c l _ sa ba ma).mono ?_; rintro e w' ⟨rfl, rfl⟩)
  go_ret
  exact ⟨rfl, rfl⟩

set_option maxHeartbeats 400000 in
theorem refDegree_any (a : Option Addr) (c : Nat) (l : List Int) (w : World) (sa : SlAt w a l) (ba : Byt l) (ma : l.length ≤ maxLen) :
    Calls Try.prog 18 #[.slice a l.length c] w fun e w' => e = .returned (.int .i64 ((tl l : Int) - 1)) ∧ w' = w := by
  unfold maxLen at ma
  go_enter Try.func18, Try.ntmps18
  go_wp2
  go_loop [3, 4] (fun d i => ∃ k : Nat, k ≤ l.length ∧ i = .int .i64 (k : Int) ∧ d = .int .i64 ((tN l k : Int) - 1)) (fun _ i => l.length - (intOf i).toNat)
  case atStart => exact ⟨0, by omega, rfl, rfl⟩
  case round =>
    obtain ⟨k, hk, rfl, rfl⟩ := hrel
    by_cases hlt : k < l.length
    · obtain ⟨x, h1, Hx⟩ : ∃ x, (0 ≤ x ∧ x < 256) ∧ Hid (x = l[k]?.getD 0) := ⟨_, ba k (by omega), rfl⟩
      rcases sa with sa | ⟨b1, o1, rfl, hb1, hc1⟩
      · rw [sa] at hlt; simp at hlt
      have c1 : w.cell? ⟨b1, o1 + k, none⟩ = some (.int .u8 x) := by rw [Hx.out]; exact hc1 k (by omega)
      clear hc1
      by_cases hz : x = 0
      · have hz' : (x != 0) = false := by simp [hz]
        have HZ : Hid (x = 0) := hz
        clear hz
        go_wp2
        go_round
        case rel => exact ⟨k + 1, by omega, by go_num, by simp only [tN]; rw [← Hx.out, if_pos HZ.out]⟩
        case measure => simp [intOf]; omega
      · have hz' : (x != 0) = true := by simp [hz]
        have HZ : Hid (¬ x = 0) := hz
        clear hz
        go_wp2
        go_round
        case rel => exact ⟨k + 1, by omega, by go_num, by simp only [tN]; rw [← Hx.out, if_neg HZ.out]; go_num⟩
        case measure => simp [intOf]; omega
    · have : k = l.length := by omega
      subst this
      go_wp2
      go_ret
      exact ⟨rfl, rfl⟩

set_option maxHeartbeats 400000 in
theorem at_any (a : Option Addr) (c n : Nat) (l : List Int) (i : Int) (k : Nat) (w : World) (sa : SlAt w a l) (ba : Byt l) (ma : n ≤ maxLen) (en : l.length = n) (hi : i = (k : Int)) :
    Calls Try.prog 15 #[.slice a n c, .int .i64 i] w fun e w' => e = .returned (.int .u8 (l[k]?.getD 0)) ∧ w' = w := by
  subst en; subst hi
  unfold maxLen at ma
  by_cases hlt : k < l.length
  · obtain ⟨x, h1, Hx⟩ : ∃ x, (0 ≤ x ∧ x < 256) ∧ Hid (l[k]?.getD 0 = x) := ⟨_, ba k (by omega), rfl⟩
    rcases sa with sa | ⟨b1, o1, rfl, hb1, hc1⟩
    · rw [sa] at hlt; simp at hlt
    have c1 : w.cell? ⟨b1, o1 + k, none⟩ = some (.int .u8 x) := by rw [← Hx.out]; exact hc1 k (by omega)
    clear hc1
    rw [Hx.out]
    go_enter Try.func15, Try.ntmps15
    go_wp2
    go_ret
    exact ⟨rfl, rfl⟩
  · rw [List.getElem?_eq_none (by omega)]
    go_enter Try.func15, Try.ntmps15
    go_wp2
    go_ret
    exact ⟨rfl, rfl⟩

set_option maxHeartbeats 400000 in
theorem refSame_true (a1 a2 : Option Addr) (c1 c2 n1 n2 : Nat) (l1 l2 : List Int) (w : World) (s1 : SlAt w a1 l1) (b1 : Byt l1) (s2 : SlAt w a2 l2) (b2 : Byt l2) (m1 : n1 ≤ maxLen) (m2 : n2 ≤ maxLen) (e1 : l1.length = n1) (e2 : l2.length = n2) (h : ∀ i : Nat, l1[i]?.getD 0 = l2[i]?.getD 0) :
    Calls Try.prog 19 #[.slice a1 n1 c1, .slice a2 n2 c2] w fun e w' => e = .returned (.bool true) ∧ w' = w := by
  subst e1; subst e2
  have m1' := m1
  have m2' := m2
  unfold maxLen at m1' m2'
  have HH : Hid (∀ i : Nat, l1[i]?.getD 0 = l2[i]?.getD 0) := h
  clear h
  go_enter Try.func19, Try.ntmps19
  go_wp2
  go_loop [5] (fun i => ∃ k : Nat, k ≤ max l1.length l2.length ∧ i = .int .i64 (k : Int)) (fun i => max l1.length l2.length - (intOf i).toNat)
  case atStart => exact ⟨0, by omega, rfl⟩
  case round =>
    obtain ⟨k, hk, rfl⟩ := hrel
    by_cases hlt : k < l1.length ∨ k < l2.length
    · obtain ⟨x, Hx1, Hx2⟩ : ∃ x, Hid (l1[k]?.getD 0 = x) ∧ Hid (l2[k]?.getD 0 = x) := ⟨_, rfl, (HH.out k).symm⟩
      have hxx : (x != x) = false := by simp
      by_cases hl1 : k < l1.length
      · go_wp2_with (first | (go_at_call_of 15 (Value.slice a1 l1.length c1); refine (at_any a1 c1 l1.length l1 k k _ s1 b1 m1 rfl rfl).mono ?_; rw [Hx1.out]; rintro e w' ⟨rfl, rfl⟩) | (go_at_call_of 15 (Value.slice a2 l2.length c2); refine (at_any a2 c2 l2.length l2 k k _ s2 b2 m2 rfl rfl).mono ?_; rw [Hx2.out]; rintro e w' ⟨rfl, rfl⟩))
        go_round
        case rel => exact ⟨k + 1, by omega, by go_num⟩
        case measure => simp [intOf]; omega
      · have hl2 : k < l2.length := by omega
        go_wp2_with (first | (go_at_call_of 15 (Value.slice a1 l1.length c1); refine (at_any a1 c1 l1.length l1 k k _ s1 b1 m1 rfl rfl).mono ?_; rw [Hx1.out]; rintro e w' ⟨rfl, rfl⟩) | (go_at_call_of 15 (Value.slice a2 l2.length c2); refine (at_any a2 c2 l2.length l2 k k _ s2 b2 m2 rfl rfl).mono ?_; rw [Hx2.out]; rintro e w' ⟨rfl, rfl⟩))
        go_round
        case rel => exact ⟨k + 1, by omega, by go_num⟩
        case measure => simp [intOf]; omega
    · have h1 : ¬ k < l1.length := by omega
      have h2 : ¬ k < l2.length := by omega
      go_wp2
      go_ret
      exact ⟨rfl, rfl⟩

end Go.Proofs.Ytmcdggojlnjkoaa
