/-
  The document's columns as an array; what a syndrome is told as.
-/
import Derived.Test.YtdjknaafefnlcaaDoorHsW1
import Derived.Deep.MidRow
namespace Go.Proofs.YtdjknaafefnlcaaDoor
open Go.RowKit Go.Shelf
open Bm (wt wtK cntW)
open Hm (col onesOf nOf idx kd pl xs ap syn)
attribute [local go_sem] Oper.semAt_some

/-- the array's cells behind k rounds -/
def stageC : Nat → Array Value
  | 0 => Array.replicate 74 (.int .u8 0)
  | k + 1 => (stageC k).setIfInBounds k (.int .u8 (col k : Int))
theorem stageC_size (k : Nat) : (stageC k).size = 74 := by
  induction k with
  | zero => simp [stageC]
  | succ k ih => simp [stageC, ih]
theorem stageC_cell (k o : Nat) (h : o < 74) : ∃ v, (stageC k)[o]? = some v :=
  ⟨(stageC k)[o]'(by rw [stageC_size]; exact h), Array.getElem?_eq_getElem (by rw [stageC_size]; exact h)⟩
theorem stageC_at (k n : Nat) (hn : n < k) (hk : k ≤ 74) : (stageC k)[n]? = some (.int .u8 (col n : Int)) := by
  induction k with
  | zero => omega
  | succ k ih =>
    simp only [stageC]
    by_cases e : n = k
    · subst e; rw [Array.getElem?_setIfInBounds_self_of_lt (by rw [stageC_size]; omega)]
    · rw [Array.getElem?_setIfInBounds_ne (by omega)]; exact ih (by omega) (by omega)
theorem below_put {B b : Nat} (hb : B ≤ b) : ∀ (vs : List Value) (o : Nat) {a w : World}, Below B a w → Below B a (w.setCells b o vs)
  | [], _, _, _, h => h
  | v :: vs, o, _, _, h => below_put hb vs (o + 1) (h.setCell (p := ⟨b, o, none⟩) hb v)
/-- all columns -/
def colsL : List Value := (stageC 74).toList
theorem colsL_len : colsL.length = 74 := by simp [colsL, stageC_size]
theorem colsL_at (n : Nat) (h : n < 74) : colsL[n]? = some (.int .u8 (col n : Int)) := by
  rw [← stageC_at 74 n h (Nat.le_refl _)]; simp [colsL]
theorem colsL_one : colsL.toArray.all (·.oneCell') = true := by
  refine all_oneCell_toArray fun v hv => ?_
  obtain ⟨n, hn⟩ := List.mem_iff_getElem?.1 hv
  have hn' : n < 74 := by have := (List.getElem?_eq_some_iff.1 hn).1; rw [colsL_len] at this; exact this
  rw [colsL_at n hn'] at hn
  cases hn; rfl
/-- the array lies in block b -/
theorem range_cols {W : World} {b : Nat} (h : CodeAt W b) : W.rangeAt b 0 colsL := fun j v hv => by
  have hj : j < 74 := by have := (List.getElem?_eq_some_iff.1 hv).1; rw [colsL_len] at this; exact this
  rw [colsL_at j hj] at hv
  cases hv
  rw [Nat.zero_add]; exact h j hj
theorem zero_cols (w : World) : (zeroValue 100).run Tryd.prog w = .ok (.agg (stageC 0)) w := by kernel_rfl
theorem info_cols : (Tryd.prog.info? 100).map (·.size) = some colsL.length := by rw [colsL_len]; kernel_rfl
theorem code_new (w : World) (t : TypeId) : CodeAt (w.alloc (.cells (stageC 74) t)) w.heap.size := fun i hi => by
  rw [World.cell?_alloc_new]; exact stageC_at 74 i hi (Nat.le_refl _)

theorem idx_lt (s : Nat) : ∀ n i, -1 ≤ idx s n i ∧ idx s n i < (i + n : Nat)
  | 0, i => by unfold idx; omega
  | n + 1, i => by
    unfold idx
    have := idx_lt s n (i + 1)
    split <;> omega
/-- the ways to tell a syndrome -/
theorem told (s : Nat) : (s = 0 ∧ kd s = 0 ∧ pl s = -1) ∨ (s ≠ 0 ∧ idx s 74 0 = -1 ∧ kd s = 4 ∧ pl s = -1) ∨ (s ≠ 0 ∧ idx s 74 0 = 72 ∧ kd s = 3 ∧ pl s = -1) ∨ (s ≠ 0 ∧ idx s 74 0 = 73 ∧ kd s = 2 ∧ pl s = -1) ∨
    (s ≠ 0 ∧ 0 ≤ idx s 74 0 ∧ idx s 74 0 < 72 ∧ kd s = 1 ∧ pl s = idx s 74 0) := by
  have hr := idx_lt s 74 0
  unfold kd pl
  by_cases h0 : s = 0
  · exact .inl ⟨h0, by rw [if_pos h0], by rw [if_pos h0]⟩
  · by_cases h1 : idx s 74 0 = -1
    · exact .inr (.inl ⟨h0, h1, by rw [if_neg h0, if_pos h1], by rw [if_neg h0, h1]; rfl⟩)
    · by_cases h2 : idx s 74 0 = 72
      · exact .inr (.inr (.inl ⟨h0, h2, by rw [if_neg h0, if_neg h1, if_pos h2], by rw [if_neg h0, if_pos h2]⟩))
      · by_cases h3 : idx s 74 0 = 73
        · exact .inr (.inr (.inr (.inl ⟨h0, h3, by rw [if_neg h0, if_neg h1, if_neg h2, if_pos h3], by rw [if_neg h0, if_neg h2, if_pos h3]⟩)))
        · exact .inr (.inr (.inr (.inr ⟨h0, by omega, by omega, by rw [if_neg h0, if_neg h1, if_neg h2, if_neg h3], by rw [if_neg h0, if_neg h2, if_neg h3]⟩)))

set_option maxHeartbeats 1000000 in
theorem classify_any (b s : Nat) (hs : s < 256) (w : World) (hc : CodeAt w b) :
    Calls Tryd.prog 71 #[.pointer (some ⟨b, 0, none⟩), .int .u8 (s : Int)] w fun e w' => e = .returned (.tuple #[.int .i64 (kd s), .int .i64 (pl s)]) ∧ w' = w := by
  obtain ⟨r, Hr⟩ : ∃ r, idx s 74 0 = r := ⟨_, rfl⟩
  have HI : Hid (∀ w, CodeAt w b → Calls Tryd.prog 87 #[.slice (some ⟨b, 0, none⟩) 74 74, .int .u8 (s : Int)] w fun e w' => e = .returned (.int .i64 r) ∧ w' = w) := fun w hw => by rw [← Hr]; exact index_any b s hs w hw
  have HC : Hid (CodeAt w b) := hc
  have ht := told s
  rw [Hr] at ht
  clear hc
  rcases ht with ⟨h0, h1, h2⟩ | ⟨h0, h3, h1, h2⟩ | ⟨h0, h3, h1, h2⟩ | ⟨h0, h3, h1, h2⟩ | ⟨h0, h3, h4, h1, h2⟩ <;> rw [h1, h2] <;> clear h1 h2 Hr
  · subst h0
    go_enter Tryd.func71, Tryd.ntmps71
    go_wp2
    go_ret2
    exact ⟨rfl, rfl⟩
  all_goals
    have hd : ((s : Int) == 0) = false := by simp; omega
    try subst h3
    clear h0
    go_enter Tryd.func71, Tryd.ntmps71
    go_wp2_with (go_at_call 87; refine (HI.out _ HC.out).mono ?_; rintro e w' ⟨rfl, rfl⟩)
    go_ret2
    exact ⟨rfl, rfl⟩

end Go.Proofs.YtdjknaafefnlcaaDoor
