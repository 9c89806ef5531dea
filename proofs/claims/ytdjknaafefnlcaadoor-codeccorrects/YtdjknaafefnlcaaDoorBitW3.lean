/-
  Choose: which arguments it answers, and what it hands back.
-/
import Derived.Test.YtdjknaafefnlcaaDoorBitW2
namespace Go.Proofs.YtdjknaafefnlcaaDoor
open Go.RowKit Go.Shelf
open Bm (wt wtK)
attribute [local go_sem] Oper.semAt_some

theorem wtFull8 : wt 255 = 8 := by decide +kernel
set_option maxHeartbeats 1000000 in
theorem choosable8_yes (n k : Int) (h0 : 0 ≤ k) (h1 : k ≤ n) (h2 : n ≤ 8) (w : World) :
    Calls Tryd.prog 90 #[.int .i64 n, .int .i64 k] w fun e w' => e = .returned (.bool true) ∧ w' = w := by
  have hw : Hid (∀ w, Calls Tryd.prog 93 #[.int .u8 255] w fun e w' => e = .returned (.int .i64 8) ∧ w' = w) := fun w => by
    have := weight8_any 255 (by omega) w
    rw [wtFull8] at this; exact this
  have hmin : ∀ (ts : Array TypeId) (t : TypeId) (w : World), (Builtin.min_ ts t #[.int .i64 16, .int .i64 8]).run Tryd.prog w = .ok (.int .i64 8) w := fun _ _ _ => rfl
  go_enter Tryd.func90, Tryd.ntmps90
  go_wp2_with (go_at_call 93; refine (hw.out _).mono ?_; rintro e w' ⟨rfl, rfl⟩)
  go_ret
  exact ⟨rfl, rfl⟩
set_option maxHeartbeats 1000000 in
theorem choosable8_no (n k : Int) (h : ¬ (0 ≤ k ∧ k ≤ n ∧ n ≤ 8)) (w : World) :
    Calls Tryd.prog 90 #[.int .i64 n, .int .i64 k] w fun e w' => e = .returned (.bool false) ∧ w' = w := by
  have hw : Hid (∀ w, Calls Tryd.prog 93 #[.int .u8 255] w fun e w' => e = .returned (.int .i64 8) ∧ w' = w) := fun w => by
    have := weight8_any 255 (by omega) w
    rw [wtFull8] at this; exact this
  have hmin : ∀ (ts : Array TypeId) (t : TypeId) (w : World), (Builtin.min_ ts t #[.int .i64 16, .int .i64 8]).run Tryd.prog w = .ok (.int .i64 8) w := fun _ _ _ => rfl
  by_cases h0 : 0 ≤ k
  · by_cases h1 : k ≤ n
    · have h2 : 8 < n := by omega
      have d2 : decide (n ≤ 8) = false := by simp; omega
      clear h
      go_enter Tryd.func90, Tryd.ntmps90
      go_wp2_with (go_at_call 93; refine (hw.out _).mono ?_; rintro e w' ⟨rfl, rfl⟩)
      go_ret
      exact ⟨rfl, rfl⟩
    · have d1 : decide (k ≤ n) = false := by simp; omega
      clear h
      go_enter Tryd.func90, Tryd.ntmps90
      go_wp2_with (go_at_call 93; refine (hw.out _).mono ?_; rintro e w' ⟨rfl, rfl⟩)
      go_ret
      exact ⟨rfl, rfl⟩
  · have d0 : decide (0 ≤ k) = false := by simp; omega
    clear h
    go_enter Tryd.func90, Tryd.ntmps90
    go_wp2_with (go_at_call 93; refine (hw.out _).mono ?_; rintro e w' ⟨rfl, rfl⟩)
    go_ret
    exact ⟨rfl, rfl⟩
set_option maxHeartbeats 1000000 in
theorem choose8_yes (n k : Int) (h0 : 0 ≤ k) (h1 : k ≤ n) (h2 : n ≤ 8) (w : World) :
    Calls Tryd.prog 75 #[.int .i64 n, .int .i64 k] w fun e w' =>
      e = .returned (.func (.func 92) #[] #[.pointer (some ⟨w.heap.size, 0, none⟩), .pointer (some ⟨w.heap.size + 1, 0, none⟩)]) ∧
      w' = (w.alloc (.cells #[.int .i64 n] 3)).alloc (.cells #[.int .i64 k] 3) := by
  go_enter Tryd.func75, Tryd.ntmps75
  go_wp2_with (go_at_call 90; refine (choosable8_yes _ _ h0 h1 h2 _).mono ?_; rintro e w' ⟨rfl, rfl⟩)
  go_ret
  exact ⟨rfl, rfl⟩
set_option maxHeartbeats 1000000 in
theorem choose8_no (n k : Int) (h : ¬ (0 ≤ k ∧ k ≤ n ∧ n ≤ 8)) (w : World) :
    Calls Tryd.prog 75 #[.int .i64 n, .int .i64 k] w fun e w' =>
      e = .returned (.func (.func 91) #[] #[]) ∧
      w' = (w.alloc (.cells #[.int .i64 n] 3)).alloc (.cells #[.int .i64 k] 3) := by
  have H : Hid (¬ (0 ≤ k ∧ k ≤ n ∧ n ≤ 8)) := h
  clear h
  go_enter Tryd.func75, Tryd.ntmps75
  go_wp2_with (go_at_call 90; refine (choosable8_no _ _ H.out _).mono ?_; rintro e w' ⟨rfl, rfl⟩)
  go_ret
  exact ⟨rfl, rfl⟩
/-- none come -/
theorem choose8_none (enc : Nat → Array Value) (p T : Nat → Prop) (w : World) : SeqC Tryd.prog 91 #[] enc 0 p T w := by
  intro l M J Jx W hW hM hJ hJx hskip hY h0
  clear hskip hY
  refine callsIn_of_wp Tryd.func91 rfl trivial ?_ rfl
  simp only [Tryd.ntmps91, List.size_toArray, List.length_cons, List.length_nil, Nat.reduceAdd, Nat.reduceSub, Array.replicate_succ, Array.replicate_zero, List.push_toArray, List.append_toArray, List.nil_append, List.cons_append, Array.append_empty]
  gi_wp2
  go_end0
  exact ⟨⟨_, rfl⟩, .inl h0⟩


end Go.Proofs.YtdjknaafefnlcaaDoor
