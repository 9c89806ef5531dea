/-
  The document's example, which every statement of layer 3 holds the program against first.
-/
import Derived.Test.YtfjhaihingmnoaaDoorBitW3
namespace Go.Proofs.YtfjhaihingmnoaaDoor
open Go.RowKit Go.Shelf
open Bm (wt wtK cntW)
attribute [local go_sem] Oper.semAt_some

/-- four variables' boxes, laid one by one -/
theorem four_boxes (w : World) (t0 t1 t2 t3 : TypeId) (v0 v1 v2 v3 : Value) (V : World) (h : (((w.alloc (.cells #[v0] t0)).alloc (.cells #[v1] t1)).alloc (.cells #[v2] t2)).alloc (.cells #[v3] t3) = V) :
    V.heap.size = w.heap.size + 4 ∧ Box V w.heap.size v0 ∧ Box V (w.heap.size + 1) v1 ∧ Box V (w.heap.size + 1 + 1) v2 ∧ Box V (w.heap.size + 1 + 1 + 1) v3 ∧ Below w.heap.size w V := by
  have a0 := Box.new w t0 v0
  have a1 := Box.new (w.alloc (.cells #[v0] t0)) t1 v1
  have a2 := Box.new ((w.alloc (.cells #[v0] t0)).alloc (.cells #[v1] t1)) t2 v2
  have a3 := Box.new (((w.alloc (.cells #[v0] t0)).alloc (.cells #[v1] t1)).alloc (.cells #[v2] t2)) t3 v3
  simp only [World.size_alloc] at a1 a2 a3
  rw [← h]
  exact ⟨by simp, ((a0.alloc _).alloc _).alloc _, (a1.alloc _).alloc _, a2.alloc _, a3, ((((Below.refl _ w).alloc (Nat.le_refl _) _).alloc (by simp) _).alloc (by simp; omega) _).alloc (by simp; omega) _⟩

set_option maxRecDepth 100000 in
set_option maxHeartbeats 2000000 in
theorem anchor_any (w : World) : Calls Tryd.prog 6 #[] w fun e w' => e = .returned (.bool true) ∧ Below w.heap.size w w' := by
  have hw : Hid (∀ w, Calls Tryd.prog 14 #[.int .u16 7] w fun e w' => e = .returned (.int .i64 3) ∧ w' = w) := fun w => by
    have := weight16_any 7 (by omega) w
    rw [show wt 7 = 3 from by decide +kernel] at this; exact this
  have hi0 : ∀ w, (Instr.index 45 (.agg #[.int .u8 3, .int .u8 5, .int .u8 6, .int .u8 9, .int .u8 10, .int .u8 12]) (.int .i64 0)).run Tryd.prog w = .ok (.int .u8 3) w := fun w => by kernel_rfl
  have hi1 : ∀ w, (Instr.index 45 (.agg #[.int .u8 3, .int .u8 5, .int .u8 6, .int .u8 9, .int .u8 10, .int .u8 12]) (.int .i64 1)).run Tryd.prog w = .ok (.int .u8 5) w := fun w => by kernel_rfl
  have hi2 : ∀ w, (Instr.index 45 (.agg #[.int .u8 3, .int .u8 5, .int .u8 6, .int .u8 9, .int .u8 10, .int .u8 12]) (.int .i64 2)).run Tryd.prog w = .ok (.int .u8 6) w := fun w => by kernel_rfl
  have hi3 : ∀ w, (Instr.index 45 (.agg #[.int .u8 3, .int .u8 5, .int .u8 6, .int .u8 9, .int .u8 10, .int .u8 12]) (.int .i64 3)).run Tryd.prog w = .ok (.int .u8 9) w := fun w => by kernel_rfl
  have hi4 : ∀ w, (Instr.index 45 (.agg #[.int .u8 3, .int .u8 5, .int .u8 6, .int .u8 9, .int .u8 10, .int .u8 12]) (.int .i64 4)).run Tryd.prog w = .ok (.int .u8 10) w := fun w => by kernel_rfl
  have hi5 : ∀ w, (Instr.index 45 (.agg #[.int .u8 3, .int .u8 5, .int .u8 6, .int .u8 9, .int .u8 10, .int .u8 12]) (.int .i64 5)).run Tryd.prog w = .ok (.int .u8 12) w := fun w => by kernel_rfl
  refine (callsIn_wide (n := 10)).1 ?_
  refine callsIn_of_wp_marks Tryd.func6 rfl trivial ?_ rfl
  simp only [Tryd.ntmps6, List.size_toArray, List.length_nil, Nat.reduceSub, Array.replicate_succ, Array.replicate_zero, List.push_toArray, List.append_toArray, List.nil_append, List.cons_append]
  gi_wp2_with (first | (refine ⟨trivial, ?_⟩; gi_at_call 14; refine (callsIn_wide.2 (hw.out _)).mono ?_; rintro e w' ⟨rfl, rfl⟩) | (refine ⟨trivial, ?_⟩; gi_at_call 22; refine (callsIn_wide.2 (choose8_yes _ _ (by omega) (by omega) (by omega) _)).mono ?_; rintro e w' ⟨rfl, rfl⟩))
  obtain ⟨V, hV⟩ : ∃ V, (((w.alloc (.cells #[.bool false] 4)).alloc (.cells #[.int .i64 0] 3)).alloc (.cells #[.int .i64 4] 3)).alloc (.cells #[.int .i64 2] 3) = V := ⟨_, rfl⟩
  obtain ⟨sV, b0, b1, b2, b3, hB⟩ := four_boxes w _ _ _ _ _ _ _ _ V hV
  rw [hV]
  clear hV
  refine rangeC rfl (enters_of Tryd.func32 (by kernel_rfl) rfl) (choose8_seq (w.heap.size + 1 + 1) (w.heap.size + 1 + 1 + 1) 4 (by omega) 2 V b2.lt b3.lt b2.1 b3.1) (fun _ => rfl)
    (fun b => b = w.heap.size ∨ b = w.heap.size + 1) (by rintro b (rfl | rfl) <;> constructor <;> omega) (by rintro b rfl; omega)
    (fun x W => x ≤ 16 ∧ Box W (w.heap.size + 1) (.int .i64 (cntW 2 x : Int)) ∧ Box W w.heap.size (.bool false) ∧ Below w.heap.size w W) (fun _ _ _ => False)
    (by rintro x A B ⟨h1, h2, h3, h4⟩ hs; exact ⟨h1, h2.stay hs, h3.stay hs, below_stay h4 hs (by omega)⟩) (by rintro c x A B h; exact h.elim) ⟨by omega, b1, b0, hB⟩
    (by rintro x W hx hp ⟨h1, h2, h3, h4⟩; exact ⟨by omega, by rw [Bm.cntW_no _ _ hp]; exact h2, h3, h4⟩) ?round ?done ?stop
  case round =>
    rintro l x W W2 hx hp ⟨h1, h2, h3, h4⟩
    have fin : ∀ c : Nat, Hid (cntW 2 x = c) → Box W2 (w.heap.size + 1) (.int .i64 (c : Int)) →
        Keep (fun b => b = w.heap.size ∨ b = w.heap.size + 1) W2 (W2.setCell ⟨w.heap.size + 1, 0, none⟩ (.int .i64 ((c : Int) + 1))) ∧
        x + 1 ≤ 16 ∧ Box (W2.setCell ⟨w.heap.size + 1, 0, none⟩ (.int .i64 ((c : Int) + 1))) (w.heap.size + 1) (.int .i64 (cntW 2 (x + 1) : Int)) ∧ Box (W2.setCell ⟨w.heap.size + 1, 0, none⟩ (.int .i64 ((c : Int) + 1))) w.heap.size (.bool false) ∧ Below w.heap.size w (W2.setCell ⟨w.heap.size + 1, 0, none⟩ (.int .i64 ((c : Int) + 1))) := by
      intro c hc hb
      refine ⟨(Keep.refl _ _).set (.inr rfl) _, by omega, ?_, h3.other (by omega) _, h4.setCell (p := ⟨w.heap.size + 1, 0, none⟩) (by simp) _⟩
      rw [Bm.cntW_yes _ _ hp, hc.out]
      exact hb.set _
    have c3 := h3.1; have f3 := h3.2
    rcases Bm.six2 x (by omega) (by omega) with ⟨rfl, hc⟩ | ⟨rfl, hc⟩ | ⟨rfl, hc⟩ | ⟨rfl, hc⟩ | ⟨rfl, hc⟩ | ⟨rfl, hc⟩
    all_goals
      rw [hc] at h2
      have F := fin _ hc h2
      clear fin
      have HF : Hid _ := F
      have c2 := h2.1; have f2 := h2.2
      clear F hc hp
      gi_wp2
      refine ⟨trivial, ?_⟩
      gi_wp2
      exact HF
  case done =>
    rintro D W hD ⟨_, h2, h3, h4⟩ hK
    have h2' : Box W (w.heap.size + 1) (.int .i64 6) := by rw [show (2 : Nat) ^ 4 = 16 from rfl, Bm.six2_end] at h2; exact h2
    clear h2
    have c2 := h2'.1; have c3 := h3.1; have f3 := h3.2
    gi_wp2_with (first | (refine ⟨trivial, ?_⟩; gi_at_call 14; refine (callsIn_wide.2 (hw.out _)).mono ?_; rintro e w' ⟨rfl, rfl⟩))
    obtain ⟨k1, k2, k3⟩ := leaves (u := .bool true) h3 hK (Nat.le_refl _) (by omega) (by omega) h4
    refine ⟨by simp, .inl ⟨_, _, rfl, run_takeDeferred k1, ?_⟩⟩
    refine ⟨.bool true, ?_, rfl, k3⟩
    simp [results, Tryd.f6, go_sem, k2]
  case stop => rintro D c x W _ _ _ h; exact h.elim
end Go.Proofs.YtfjhaihingmnoaaDoor
