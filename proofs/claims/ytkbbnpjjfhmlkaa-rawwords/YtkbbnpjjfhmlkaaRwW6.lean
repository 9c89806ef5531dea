/-
  The document's example, which every statement of layer 9 holds the program against first.
-/
import Derived.Test.YtkbbnpjjfhmlkaaRwW5
import Derived.Test.YtkbbnpjjfhmlkaaBitW4
namespace Go.Proofs.Ytkbbnpjjfhmlkaa
open Go.RowKit Go.Shelf
attribute [local go_sem] Oper.semAt_some

/-- between two rounds of the example's range -/
structure An (B : Nat) (w : World) (x : Nat) (W : World) : Prop where
  n : Box W (B + 1) (.int .i64 (x : Int))
  r : Box W B (.bool false)
  below : Below B w W
theorem An.stay {B C x : Nat} {w W W' : World} (h : An B w x W) (k : Stay C W W') (hC : B ≤ C) : An B w x W' := ⟨h.n.stay k, h.r.stay k, below_stay h.below k hC⟩
theorem An.step {B x : Nat} {w W : World} (h : An B w x W) : An B w (x + 1) (W.setCell ⟨B + 1, 0, none⟩ (.int .i64 ((x : Int) + 1))) :=
  ⟨h.n.set _, h.r.other (by omega) _, h.below.setCell (p := ⟨B + 1, 0, none⟩) (by simp) _⟩

set_option maxRecDepth 100000 in
set_option maxHeartbeats 2000000 in
theorem anchor9_any (w : World) : Calls Try.prog 8 #[] w fun e w' => e = .returned (.bool true) ∧ Below w.heap.size w w' := by
  have cC : Hid (∀ w : World, Calls Try.prog 11 #[.int .i64 2] w fun e w' => e = .returned (.int .i64 36) ∧ w' = w) := countChips_any .chips
  have cW : Hid (∀ w : World, Calls Try.prog 12 #[.int .i64 2] w fun e w' => e = .returned (.int .i64 2) ∧ w' = w) := countWords_any .chips
  have cO : Hid (∀ w : World, Calls Try.prog 15 #[.int .i64 1, .int .i64 3] w fun e w' =>
      e = .returned (.func (.func 28) #[] #[.pointer (some ⟨w.heap.size, 0, none⟩), .pointer (some ⟨w.heap.size + 1, 0, none⟩)]) ∧
      ∃ q, w' = ((w.alloc (.cells #[.int .i64 1] 3)).alloc (.cells #[.int .i64 3] 3)).drewN q) := of_yes .bits 3 ⟨by omega, by omega⟩
  refine (callsIn_wide (n := 10)).1 ?_
  refine callsIn_of_wp_marks Try.func8 rfl trivial ?_ rfl
  simp only [Try.ntmps8, List.size_toArray, List.length_nil, Nat.reduceSub, Array.replicate_succ, Array.replicate_zero, List.push_toArray, List.append_toArray, List.nil_append, List.cons_append]
  refine wpIn_wide.2 ?_
  go_wp2_with (go_at_call 11; refine (cC.out _).mono ?_; rintro e w' ⟨rfl, rfl⟩)
  refine (cO.out _).mono ?_
  rintro e V2 ⟨rfl, hV2⟩
  obtain ⟨V, hV⟩ : ∃ V, (((w.alloc (.cells #[.bool false] 4)).alloc (.cells #[.int .i64 0] 3)).alloc (.cells #[.int .i64 1] 3)).alloc (.cells #[.int .i64 3] 3) = V := ⟨_, rfl⟩
  obtain ⟨sV, b0, b1, b2, b3, hB⟩ := four_boxes w _ _ _ _ _ _ _ _ V hV
  have HV : Hid (Box V2 (w.heap.size + 1 + 1) (.int .i64 1) ∧ Box V2 (w.heap.size + 1 + 1 + 1) (.int .i64 3) ∧ An w.heap.size w 0 V2 ∧ V2.heap.size = w.heap.size + 4) := by
    rw [hV] at hV2
    obtain ⟨q, rfl⟩ := hV2
    exact ⟨b2, b3, ⟨b1, b0, below_stay hB (Stay.drewN _ V q) (Nat.le_refl _)⟩, sV⟩
  simp only [World.size_alloc]
  clear hV2 hV b0 b1 b2 b3 hB sV V
  obtain ⟨B, hB⟩ : ∃ B, w.heap.size = B := ⟨_, rfl⟩
  rw [hB] at HV ⊢
  go_wp2
  have zV := HV.out.2.2.2
  refine (wpIn_wide (n := 10)).1 (rangeC rfl (enters_of Try.func28 (by kernel_rfl) rfl) (of2_seq1 3 (by omega) (by omega) (B + 1 + 1) (B + 1 + 1 + 1) V2 HV.out.1 HV.out.2.1) (fun _ => rfl)
    (fun x => x = B ∨ x = B + 1) (by rintro x (rfl | rfl) <;> constructor <;> omega) (by rintro x (rfl | rfl) <;> omega)
    (An B w) (fun _ _ _ => False)
    (by rintro x A A' h hs; exact An.stay h hs (by omega))
    (fun _ _ _ _ h _ => h.elim) HV.out.2.2.1
    (fun _ _ _ hp _ => absurd trivial hp) ?round ?done (fun _ _ _ _ _ _ _ h => h.elim))
  case round =>
    rintro l x W W2 hx hp h
    have c0 := h.n.1
    have c1 := h.n.2
    have fin : Hid (Keep (fun x => x = B ∨ x = B + 1) W2 (W2.setCell ⟨B + 1, 0, none⟩ (.int .i64 ((x : Int) + 1))) ∧ An B w (x + 1) (W2.setCell ⟨B + 1, 0, none⟩ (.int .i64 ((x : Int) + 1)))) :=
      ⟨(Keep.refl _ _).set (.inr rfl) _, An.step h⟩
    have e0 : ((x : Int) * 9 + 3 != 9 * (x : Int) + 3) = false := by simp; omega
    clear h hp HV zV
    gi_wp2
    try (refine ⟨trivial, ?_⟩)
    try gi_wp2
    exact fin.out
  case done =>
    rintro K W hK h hKd
    have c0 := h.n.1
    have c1 := h.r.1
    have c2 := h.r.2
    have HA : Hid (An B w 8 W) := h
    have HK : Hid (W.heap[K]? = some (.deferred (some []))) := hKd
    clear h hKd HV
    go_wp2_with (first | (go_at_call 11; refine (cC.out _).mono ?_; rintro e w' ⟨rfl, rfl⟩) | (go_at_call 12; refine (cW.out _).mono ?_; rintro e w' ⟨rfl, rfl⟩))
    obtain ⟨k1, k2, k3⟩ := leaves (u := .bool true) HA.out.r HK.out (Nat.le_refl _) (by omega) (by omega) HA.out.below
    refine ⟨by simp, .inl ⟨_, _, rfl, run_takeDeferred k1, ?_⟩⟩
    refine ⟨.bool true, ?_, rfl, by rw [hB]; exact k3⟩
    simp [results, Try.f8, go_sem, k2]
end Go.Proofs.Ytkbbnpjjfhmlkaa
