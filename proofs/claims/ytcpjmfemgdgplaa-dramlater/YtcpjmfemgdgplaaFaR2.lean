/-
  The document's Right.
-/
import Derived.Test.YtcpjmfemgdgplaaFaR1
namespace Go.Proofs.Ytcpjmfemgdgplaa
open Go.RowKit Go.Shelf
open Ge (pw rt hd ix)
attribute [local go_sem] Oper.semAt_some

theorem rtF_iff (n : Int) (h : Bool) (k p q u v c i x : Int) : rtF n h k p q u v c i x = true ↔ (h = true ∧ (1 ≤ k ∧ k ≤ 7 ∧ 0 ≤ c ∧ c < n ∧ 0 ≤ i ∧ i < 576 ∧ 0 ≤ x ∧ x < 256 ∧ (k ≠ 1 ∨ (c = 0 ∧ x = 0)) ∧ (k ≠ 2 ∨ (c = 0 ∧ x ≤ 1)) ∧ (k ≠ 3 ∨ (i = 0 ∧ v = 0)) ∧ (k ≠ 4 ∨ (i = 0 ∧ u = 0)) ∧ (k ≠ 5 ∨ (i = 0 ∧ q = 0 ∧ u = 0 ∧ v = 0)) ∧ (k ≠ 6 ∨ (c = 0 ∧ i = 0 ∧ x = 0)) ∧ (k ≠ 7 ∨ (p = 0 ∧ q = 0 ∧ u = 0 ∧ v = 0 ∧ c = 0 ∧ i = 0 ∧ x = 0)))) := by
  unfold rtF rtP kOk
  simp
theorem rtF_no {n : Int} {h : Bool} {k p q u v c i x : Int} (e : ¬ (1 ≤ k ∧ k ≤ 7 ∧ 0 ≤ c ∧ c < n ∧ 0 ≤ i ∧ i < 576 ∧ 0 ≤ x ∧ x < 256 ∧ (k ≠ 1 ∨ (c = 0 ∧ x = 0)) ∧ (k ≠ 2 ∨ (c = 0 ∧ x ≤ 1)) ∧ (k ≠ 3 ∨ (i = 0 ∧ v = 0)) ∧ (k ≠ 4 ∨ (i = 0 ∧ u = 0)) ∧ (k ≠ 5 ∨ (i = 0 ∧ q = 0 ∧ u = 0 ∧ v = 0)) ∧ (k ≠ 6 ∨ (c = 0 ∧ i = 0 ∧ x = 0)) ∧ (k ≠ 7 ∨ (p = 0 ∧ q = 0 ∧ u = 0 ∧ v = 0 ∧ c = 0 ∧ i = 0 ∧ x = 0)))) : rtF n h k p q u v c i x = false := by
  rw [Bool.eq_false_iff, ne_eq, rtF_iff]; exact fun y => e y.2
theorem rtF_out {n : Int} {k p q u v c i x : Int} : rtF n false k p q u v c i x = false := by
  rw [Bool.eq_false_iff, ne_eq, rtF_iff]; exact fun y => by cases y.1
theorem rtF_yes {n : Int} {k p q u v c i x : Int} (e : 1 ≤ k ∧ k ≤ 7 ∧ 0 ≤ c ∧ c < n ∧ 0 ≤ i ∧ i < 576 ∧ 0 ≤ x ∧ x < 256 ∧ (k ≠ 1 ∨ (c = 0 ∧ x = 0)) ∧ (k ≠ 2 ∨ (c = 0 ∧ x ≤ 1)) ∧ (k ≠ 3 ∨ (i = 0 ∧ v = 0)) ∧ (k ≠ 4 ∨ (i = 0 ∧ u = 0)) ∧ (k ≠ 5 ∨ (i = 0 ∧ q = 0 ∧ u = 0 ∧ v = 0)) ∧ (k ≠ 6 ∨ (c = 0 ∧ i = 0 ∧ x = 0)) ∧ (k ≠ 7 ∨ (p = 0 ∧ q = 0 ∧ u = 0 ∧ v = 0 ∧ c = 0 ∧ i = 0 ∧ x = 0))) : rtF n true k p q u v c i x = true := (rtF_iff _ _ _ _ _ _ _ _ _ _).2 ⟨rfl, e⟩
theorem infoRG : (Try.prog.info? 30).map (·.size) = some 5 := by kernel_rfl

set_option maxRecDepth 100000 in
set_option maxHeartbeats 4000000 in
theorem refRF_bad (k p q u v c i x : Int) (r s b o d m n j : Int) (hm : Md m n j) (hr : I64 r) (hb : I64 b) (ho : I64 o) (hd9 : I64 d) (y : Bool) (hy : hd r s b o d p q u v = y) (hG : y = false ∨ ¬ (1 ≤ k ∧ k ≤ 7 ∧ 0 ≤ c ∧ c < n ∧ 0 ≤ i ∧ i < 576 ∧ 0 ≤ x ∧ x < 256)) (w : World) :
    Calls Try.prog 66 #[.agg #[.int .i64 k, .int .i64 p, .int .i64 q, .int .i64 u, .int .i64 v, .int .i64 c, .int .i64 i, .int .i64 x], .agg #[.int .i64 r, .int .i64 s, .int .i64 b, .int .i64 o, .int .i64 d], .int .i64 m] w fun e w' => e = .returned (.bool false) ∧ Below w.heap.size w w' := by
  have hn : 0 ≤ n := by rcases hm with ⟨_, rfl, _⟩ | ⟨_, rfl, _⟩ | ⟨_, _, rfl, _⟩ <;> omega
  have CC : Hid (∀ w : World, Calls Try.prog 52 #[.int .i64 m] w fun e w' => e = .returned (.int .i64 n) ∧ w' = w) := fun w => refChips_any hm w
  have HH : Hid (∀ w : World, Calls Try.prog 43 #[.agg #[.int .i64 r, .int .i64 s, .int .i64 b, .int .i64 o, .int .i64 d], .agg #[.int .i64 p, .int .i64 q, .int .i64 u, .int .i64 v]] w fun e w' => e = .returned (.bool y) ∧ Below w.heap.size w w') := fun w => by rw [← hy]; exact refHolds_any r s b o d p q u v hr hb ho hd9 w
  clear hm hr hb ho hd9 hy
  go_enter Try.func66, Try.ntmps66
  go_upto_region 1 with (fail)
  obtain ⟨B, hB⟩ : ∃ B, w.heap.size = B := ⟨_, rfl⟩
  obtain ⟨C, hC⟩ : ∃ C, B + 1 = C := ⟨_, rfl⟩
  obtain ⟨V, hV⟩ : ∃ V, (w.alloc (.cells #[.int .i64 k, .int .i64 p, .int .i64 q, .int .i64 u, .int .i64 v, .int .i64 c, .int .i64 i, .int .i64 x] 51)).alloc (.cells #[.int .i64 r, .int .i64 s, .int .i64 b, .int .i64 o, .int .i64 d] 30) = V := ⟨_, rfl⟩
  have HS : Hid (Rg B C k p q u v c i x r s b o d w V) := by
    rw [← hV, ← hC, ← hB]
    have h1 := Gm.new (w.alloc (.cells #[.int .i64 k, .int .i64 p, .int .i64 q, .int .i64 u, .int .i64 v, .int .i64 c, .int .i64 i, .int .i64 x] 51)) r s b o d 30
    simp only [World.size_alloc] at h1
    exact ⟨(Ft.new w k p q u v c i x _).alloc _, h1, ((Below.refl _ w).alloc (Nat.le_refl _) _).alloc (by simp) _, by simp only [World.size_alloc]; omega⟩
  rw [hV, hB, hC]
  clear hV hC
  have f0 := HS.out.f.c0; have f5 := HS.out.f.c5; have f6 := HS.out.f.c6; have f7 := HS.out.f.c7
  go_wp2_with fail
  refine (CC.out _).mono ?_
  rintro e W0 ⟨rfl, rfl⟩
  by_cases a0 : n = 0
  · have e0 : (n == 0) = true := by simpa using a0
    go_wp2
    go_ret
    exact ⟨rfl, by first | exact HS.out.n | (rw [hB]; exact HS.out.n)⟩
  have e0 : (n == 0) = false := by simpa using a0
  by_cases a1 : k < 1
  · have e1 : decide (k < 1) = true := decide_eq_true a1
    go_wp2
    go_ret
    exact ⟨rfl, by first | exact HS.out.n | (rw [hB]; exact HS.out.n)⟩
  have e1 : decide (k < 1) = false := decide_eq_false a1
  by_cases a2 : 7 < k
  · have e2 : decide (7 < k) = true := decide_eq_true a2
    go_wp2
    go_ret
    exact ⟨rfl, by first | exact HS.out.n | (rw [hB]; exact HS.out.n)⟩
  have e2 : decide (7 < k) = false := decide_eq_false a2
  go_wp2_with (first | refine wpList_load_g (by rfl) 30 _ rfl C 0 rfl [.int .i64 r, .int .i64 s, .int .i64 b, .int .i64 o, .int .i64 d] _ (by exact Bk.range HS.out.g) Try.underlying30 rfl infoRG ?_ | refine wpList_load_g (by rfl) 49 _ rfl B 1 rfl [.int .i64 p, .int .i64 q, .int .i64 u, .int .i64 v] _ (by exact HS.out.f.place) Try.underlying49 rfl infoQ ?_)
  refine (HH.out _).mono ?_
  rintro e W1 ⟨rfl, b1⟩
  replace HS : Hid (Rg B C k p q u v c i x r s b o d w W1) := HS.out.next b1
  clear f0 f5 f6 f7 b1
  have f0 := HS.out.f.c0; have f5 := HS.out.f.c5; have f6 := HS.out.f.c6; have f7 := HS.out.f.c7
  cases y with
  | false =>
    go_wp2
    go_ret
    exact ⟨rfl, by first | exact HS.out.n | (rw [hB]; exact HS.out.n)⟩
  | true =>
    by_cases a3 : c < 0
    · have e3 : decide (c < 0) = true := decide_eq_true a3
      go_wp2
      go_ret
      exact ⟨rfl, by first | exact HS.out.n | (rw [hB]; exact HS.out.n)⟩
    have e3 : decide (c < 0) = false := decide_eq_false a3
    by_cases a4 : n ≤ c
    · have e4 : decide (n ≤ c) = true := decide_eq_true a4
      go_wp2
      go_ret
      exact ⟨rfl, by first | exact HS.out.n | (rw [hB]; exact HS.out.n)⟩
    have e4 : decide (n ≤ c) = false := decide_eq_false a4
    by_cases a5 : i < 0
    · have e5 : decide (i < 0) = true := decide_eq_true a5
      go_wp2
      go_ret
      exact ⟨rfl, by first | exact HS.out.n | (rw [hB]; exact HS.out.n)⟩
    have e5 : decide (i < 0) = false := decide_eq_false a5
    by_cases a6 : 575 < i
    · have e6 : decide (575 < i) = true := decide_eq_true a6
      go_wp2
      go_ret
      exact ⟨rfl, by first | exact HS.out.n | (rw [hB]; exact HS.out.n)⟩
    have e6 : decide (575 < i) = false := decide_eq_false a6
    by_cases a7 : x < 0
    · have e7 : decide (x < 0) = true := decide_eq_true a7
      go_wp2
      go_ret
      exact ⟨rfl, by first | exact HS.out.n | (rw [hB]; exact HS.out.n)⟩
    have e7 : decide (x < 0) = false := decide_eq_false a7
    by_cases a8 : 255 < x
    · have e8 : decide (255 < x) = true := decide_eq_true a8
      go_wp2
      go_ret
      exact ⟨rfl, by first | exact HS.out.n | (rw [hB]; exact HS.out.n)⟩
    have e8 : decide (255 < x) = false := decide_eq_false a8
    rcases hG with h9 | h9
    · cases h9
    · exact absurd ⟨by omega, by omega, by omega, by omega, by omega, by omega, by omega, by omega⟩ h9
end Go.Proofs.Ytcpjmfemgdgplaa
