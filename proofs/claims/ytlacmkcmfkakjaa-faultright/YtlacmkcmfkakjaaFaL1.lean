/-
  FaultRight.
-/
import Derived.Test.YtlacmkcmfkakjaaFaW8
namespace Go.Proofs.Ytlacmkcmfkakjaa
open Go.RowKit Go.Shelf
open Ge (pw rt hd ix)
attribute [local go_sem] Oper.semAt_some

/-- what FaultRight works on -/
structure Lw1 (B C D E : Nat) (k p q u v c i x : Int) (r s b o d : Int) (p' q' u' v' : Int) (w W : World) : Prop where
  f : Ft W B k p q u v c i x
  g : Gm W C r s b o d
  h : Pl W D p' q' u' v'
  x : Ft W E k p q u v c i x
  n : Below B w W
theorem Lw1.next {B C D E : Nat} {k p q u v c i x : Int} {r s b o d : Int} {p' q' u' v' : Int} {w W W' : World} (h : Lw1 B C D E k p q u v c i x r s b o d p' q' u' v' w W) (e : Below W.heap.size W W') : Lw1 B C D E k p q u v c i x r s b o d p' q' u' v' w W' :=
  ⟨h.f.next e, h.g.next e, h.h.next e, h.x.next e, h.n.trans (e.mono (Nat.le_of_lt h.f.lt))⟩
set_option maxRecDepth 100000 in
set_option maxHeartbeats 4000000 in
theorem faultRight_1 (p q u v c i x : Int) (r s b o d m : Int) (p' q' u' v' : Int) (hr : I64 r) (hb : I64 b) (ho : I64 o) (hd9 : I64 d) (w : World) :
    Calls Try.prog 3 #[.agg #[.int .i64 1, .int .i64 p, .int .i64 q, .int .i64 u, .int .i64 v, .int .i64 c, .int .i64 i, .int .i64 x], .agg #[.int .i64 r, .int .i64 s, .int .i64 b, .int .i64 o, .int .i64 d], .int .i64 m, .agg #[.int .i64 p', .int .i64 q', .int .i64 u', .int .i64 v']] w fun e w' => e = .returned (.bool true) ∧ Below w.heap.size w w' := by
  obtain ⟨n, j, hm⟩ := md_any m
  obtain ⟨z0, Z0⟩ : ∃ z, rtF n (hd r s b o d p q u v) 1 p q u v c i x = z := ⟨_, rfl⟩
  obtain ⟨z1, Z1⟩ : ∃ z, lz 1 p q u v p' q' u' v' = z := ⟨_, rfl⟩
  have A0 : Hid (∀ w : World, Calls Try.prog 8 #[] w fun e w' => e = .returned (.bool true) ∧ Below w.heap.size w w') := anchor11_any
  have A1 : Hid (∀ w : World, Calls Try.prog 9 #[.agg #[.int .i64 1, .int .i64 p, .int .i64 q, .int .i64 u, .int .i64 v, .int .i64 c, .int .i64 i, .int .i64 x]] w fun e w' => e = .returned (.agg #[.int .i64 1, .int .i64 p, .int .i64 q, .int .i64 u, .int .i64 v, .int .i64 c, .int .i64 i, .int .i64 x]) ∧ Below w.heap.size w w') := of11_any 1 p q u v c i x
  have C0 : Hid (∀ w : World, Calls Try.prog 10 #[.agg #[.int .i64 1, .int .i64 p, .int .i64 q, .int .i64 u, .int .i64 v, .int .i64 c, .int .i64 i, .int .i64 x], .agg #[.int .i64 r, .int .i64 s, .int .i64 b, .int .i64 o, .int .i64 d], .int .i64 m] w fun e w' => e = .returned (.bool z0) ∧ Below w.heap.size w w') := fun w => by rw [← Z0]; exact fRight_any 1 p q u v c i x r s b o d m n j hm w
  have C1 : Hid (∀ w : World, Calls Try.prog 11 #[.agg #[.int .i64 1, .int .i64 p, .int .i64 q, .int .i64 u, .int .i64 v, .int .i64 c, .int .i64 i, .int .i64 x], .agg #[.int .i64 r, .int .i64 s, .int .i64 b, .int .i64 o, .int .i64 d], .int .i64 m] w fun e w' => e = .returned (.bool z0) ∧ Below w.heap.size w w') := fun w => by rw [← Z0]; exact refRF_any 1 p q u v c i x r s b o d m n j hm hr hb ho hd9 w
  have C2 : Hid (∀ w : World, Calls Try.prog 12 #[.agg #[.int .i64 1, .int .i64 p, .int .i64 q, .int .i64 u, .int .i64 v, .int .i64 c, .int .i64 i, .int .i64 x]] w fun e w' => e = .returned (.bool false) ∧ Below w.heap.size w w') := fun w => by have := lasts_any 1 p q u v c i x w; rw [show ls 1 = false from by first | rfl | exact decide_eq_true (by omega) | exact decide_eq_false (by omega)] at this; exact this
  have C3 : Hid (∀ w : World, Calls Try.prog 13 #[.agg #[.int .i64 1, .int .i64 p, .int .i64 q, .int .i64 u, .int .i64 v, .int .i64 c, .int .i64 i, .int .i64 x], .agg #[.int .i64 p', .int .i64 q', .int .i64 u', .int .i64 v']] w fun e w' => e = .returned (.bool z1) ∧ Below w.heap.size w w') := fun w => by rw [← Z1]; exact lies_any 1 p q u v c i x p' q' u' v' w
  have C4 : Hid (∀ w : World, Calls Try.prog 14 #[.agg #[.int .i64 1, .int .i64 p, .int .i64 q, .int .i64 u, .int .i64 v, .int .i64 c, .int .i64 i, .int .i64 x], .agg #[.int .i64 p', .int .i64 q', .int .i64 u', .int .i64 v']] w fun e w' => e = .returned (.bool z1) ∧ Below w.heap.size w w') := fun w => by rw [← Z1]; exact refLies_any 1 p q u v c i x p' q' u' v' w
  have C5 : Hid (∀ w : World, Calls Try.prog 15 #[.agg #[.int .i64 1, .int .i64 p, .int .i64 q, .int .i64 u, .int .i64 v, .int .i64 c, .int .i64 i, .int .i64 x]] w fun e w' => e = .returned (.bool true) ∧ Below w.heap.size w w') := fun w => by have := narrow_any 1 p q u v c i x w; rw [show nw 1 = true from by first | rfl | exact decide_eq_true (by omega) | exact decide_eq_false (by omega)] at this; exact this
  clear Z0 Z1 hm hr hb ho hd9
  go_enter Try.func3, Try.ntmps3
  go_upto_region 1 with (fail)
  obtain ⟨B, hB⟩ : ∃ B, w.heap.size = B := ⟨_, rfl⟩
  obtain ⟨C, hC⟩ : ∃ C, B + 1 = C := ⟨_, rfl⟩
  obtain ⟨D, hD⟩ : ∃ D, C + 1 = D := ⟨_, rfl⟩
  obtain ⟨V, hV⟩ : ∃ V, ((w.alloc (.cells #[.int .i64 1, .int .i64 p, .int .i64 q, .int .i64 u, .int .i64 v, .int .i64 c, .int .i64 i, .int .i64 x] 25)).alloc (.cells #[.int .i64 r, .int .i64 s, .int .i64 b, .int .i64 o, .int .i64 d] 27)).alloc (.cells #[.int .i64 p', .int .i64 q', .int .i64 u', .int .i64 v'] 23) = V := ⟨_, rfl⟩
  have HI : Hid (Ft V B 1 p q u v c i x ∧ Gm V C r s b o d ∧ Pl V D p' q' u' v' ∧ Below B w V) := by
    rw [← hV, ← hD, ← hC, ← hB]
    have a1 := Gm.new (w.alloc (.cells #[.int .i64 1, .int .i64 p, .int .i64 q, .int .i64 u, .int .i64 v, .int .i64 c, .int .i64 i, .int .i64 x] 25)) r s b o d 27
    have a2 := Pl.new ((w.alloc (.cells #[.int .i64 1, .int .i64 p, .int .i64 q, .int .i64 u, .int .i64 v, .int .i64 c, .int .i64 i, .int .i64 x] 25)).alloc (.cells #[.int .i64 r, .int .i64 s, .int .i64 b, .int .i64 o, .int .i64 d] 27)) p' q' u' v' 23
    simp only [World.size_alloc] at a1 a2
    exact ⟨((Ft.new w 1 p q u v c i x _).alloc _).alloc _, a1.alloc _, a2, (((Below.refl _ w).alloc (Nat.le_refl _) _).alloc (by simp) _).alloc (by simp; omega) _⟩
  rw [hV, hB, hC, hD]
  clear hV hC hD
  go_wp2_with (fail)
  refine (A0.out _).mono ?_
  rintro e W0 ⟨rfl, b0⟩
  replace HI : Hid (Ft W0 B 1 p q u v c i x ∧ Gm W0 C r s b o d ∧ Pl W0 D p' q' u' v' ∧ Below B w W0) := ⟨HI.out.1.next b0, HI.out.2.1.next b0, HI.out.2.2.1.next b0, HI.out.2.2.2.trans (b0.mono (Nat.le_of_lt HI.out.1.lt))⟩
  have hr := HI.out.1.range
  clear b0
  go_wp2_with (first | refine wpList_load_mid rfl 25 _ rfl B 0 rfl [.int .i64 1, .int .i64 p, .int .i64 q, .int .i64 u, .int .i64 v, .int .i64 c, .int .i64 i, .int .i64 x] _ hr Try.underlying25 rfl infoF ?_)
  refine (A1.out _).mono ?_
  rintro e W1 ⟨rfl, b1⟩
  replace HI : Hid (Ft W1 B 1 p q u v c i x ∧ Gm W1 C r s b o d ∧ Pl W1 D p' q' u' v' ∧ Below B w W1) := ⟨HI.out.1.next b1, HI.out.2.1.next b1, HI.out.2.2.1.next b1, HI.out.2.2.2.trans (b1.mono (Nat.le_of_lt HI.out.1.lt))⟩
  clear b1 hr
  go_upto_region 4 with (fail)
  obtain ⟨E, hE⟩ : ∃ E, W1.heap.size = E := ⟨_, rfl⟩
  obtain ⟨W2, hW2⟩ : ∃ W2, W1.alloc (.cells #[.int .i64 1, .int .i64 p, .int .i64 q, .int .i64 u, .int .i64 v, .int .i64 c, .int .i64 i, .int .i64 x] 31) = W2 := ⟨_, rfl⟩
  have HS : Hid (Lw1 B C D E 1 p q u v c i x r s b o d p' q' u' v' w W2) := by
    rw [← hW2, ← hE]
    have lB := Nat.le_of_lt HI.out.1.lt
    exact ⟨HI.out.1.alloc _, HI.out.2.1.alloc _, HI.out.2.2.1.alloc _, Ft.new W1 1 p q u v c i x _, HI.out.2.2.2.alloc lB _⟩
  rw [hW2, hE]
  clear hW2 hE HI
  refine region_calm (by kernel_rfl) (by kernel_rfl) (fun W => Below W2.heap.size W2 W) (below_drew1 W2) ?_
  intro U hU f hf hof
  have HN : Hid (∀ u W, Below (f u).heap.size (f u) W → ∃ x, W = f x) := fun u W h => hof W ((hf u).trans (h.mono (hf u).size))
  have HE : Hid (∀ y, Lw1 B C D E 1 p q u v c i x r s b o d p' q' u' v' w (f y)) := fun y => HS.out.next (hf y)
  have f0 : ∀ y, (f y).cell? ⟨B, 0, none⟩ = some (.int .i64 1) := fun y => (HE.out y).f.c0
  clear hf hof HS
  refine quiet_load rfl 25 _ rfl B 0 rfl [.int .i64 1, .int .i64 p, .int .i64 q, .int .i64 u, .int .i64 v, .int .i64 c, .int .i64 i, .int .i64 x] _ (by rintro _ ⟨y, rfl⟩; exact (HE.out y).f.range) Try.underlying25 rfl infoF ?_
  simp only [Act.put, List.setIfInBounds_toArray, List.set_cons_zero, List.set_cons_succ]
  refine quiet_load rfl 27 _ rfl C 0 rfl [.int .i64 r, .int .i64 s, .int .i64 b, .int .i64 o, .int .i64 d] _ (by rintro _ ⟨y, rfl⟩; exact Bk.range (HE.out y).g) Try.underlying27 rfl infoGm ?_
  simp only [Act.put, List.setIfInBounds_toArray, List.set_cons_zero, List.set_cons_succ]
  go_big_quiet_step (fail)
  go_big_quiet_step ((go_at_call 10; exact calm_next HN.out (C0.out _)))
  refine quiet_load rfl 31 _ rfl E 0 rfl [.int .i64 1, .int .i64 p, .int .i64 q, .int .i64 u, .int .i64 v, .int .i64 c, .int .i64 i, .int .i64 x] _ (by rintro _ ⟨y, rfl⟩; exact (HE.out y).x.range) Try.underlying31 rfl infoG ?_
  simp only [Act.put, List.setIfInBounds_toArray, List.set_cons_zero, List.set_cons_succ]
  refine quiet_load rfl 27 _ rfl C 0 rfl [.int .i64 r, .int .i64 s, .int .i64 b, .int .i64 o, .int .i64 d] _ (by rintro _ ⟨y, rfl⟩; exact Bk.range (HE.out y).g) Try.underlying27 rfl infoGm ?_
  simp only [Act.put, List.setIfInBounds_toArray, List.set_cons_zero, List.set_cons_succ]
  go_big_quiet_step (fail)
  go_big_quiet_step ((go_at_call 11; exact calm_next HN.out (C1.out _)))
  go_big_quiet_step (fail)
  go_big_quiet_step (fail)
  refine quiet_load (by rfl) 25 _ rfl B 0 rfl [.int .i64 1, .int .i64 p, .int .i64 q, .int .i64 u, .int .i64 v, .int .i64 c, .int .i64 i, .int .i64 x] _ (by rintro _ ⟨y, rfl⟩; exact (HE.out y).f.range) Try.underlying25 rfl infoF ?_
  simp only [Act.put, List.setIfInBounds_toArray, List.set_cons_zero, List.set_cons_succ]
  go_big_quiet_step ((go_at_call 12; exact calm_next HN.out (C2.out _)))
  go_big_quiet_step (fail)
  go_big_quiet_step (fail)
  go_big_quiet_step (fail)
  go_big_quiet_step (fail)
  go_big_quiet_step (fail)
  go_big_quiet_step (fail)
  go_big_quiet_step (fail)
  go_big_quiet_step (fail)
  go_big_quiet_step (fail)
  go_big_quiet_step (fail)
  go_big_quiet_step (fail)
  refine quiet_load (by rfl) 25 _ rfl B 0 rfl [.int .i64 1, .int .i64 p, .int .i64 q, .int .i64 u, .int .i64 v, .int .i64 c, .int .i64 i, .int .i64 x] _ (by rintro _ ⟨y, rfl⟩; exact (HE.out y).f.range) Try.underlying25 rfl infoF ?_
  simp only [Act.put, List.setIfInBounds_toArray, List.set_cons_zero, List.set_cons_succ]
  refine quiet_load (by rfl) 23 _ rfl D 0 rfl [.int .i64 p', .int .i64 q', .int .i64 u', .int .i64 v'] _ (by rintro _ ⟨y, rfl⟩; exact (HE.out y).h.range) Try.underlying23 rfl infoP ?_
  simp only [Act.put, List.setIfInBounds_toArray, List.set_cons_zero, List.set_cons_succ]
  go_big_quiet_step ((go_at_call 13; exact calm_next HN.out (C3.out _)))
  refine quiet_load (by rfl) 31 _ rfl E 0 rfl [.int .i64 1, .int .i64 p, .int .i64 q, .int .i64 u, .int .i64 v, .int .i64 c, .int .i64 i, .int .i64 x] _ (by rintro _ ⟨y, rfl⟩; exact (HE.out y).x.range) Try.underlying31 rfl infoG ?_
  simp only [Act.put, List.setIfInBounds_toArray, List.set_cons_zero, List.set_cons_succ]
  refine quiet_load (by rfl) 23 _ rfl D 0 rfl [.int .i64 p', .int .i64 q', .int .i64 u', .int .i64 v'] _ (by rintro _ ⟨y, rfl⟩; exact (HE.out y).h.range) Try.underlying23 rfl infoP ?_
  simp only [Act.put, List.setIfInBounds_toArray, List.set_cons_zero, List.set_cons_succ]
  go_big_quiet_step ((go_at_call 14; exact calm_next HN.out (C4.out _)))
  go_big_quiet_step (fail)
  go_big_quiet_step (fail)
  go_big_quiet_step (fail)
  refine quiet_load (by rfl) 25 _ rfl B 0 rfl [.int .i64 1, .int .i64 p, .int .i64 q, .int .i64 u, .int .i64 v, .int .i64 c, .int .i64 i, .int .i64 x] _ (by rintro _ ⟨y, rfl⟩; exact (HE.out y).f.range) Try.underlying25 rfl infoF ?_
  simp only [Act.put, List.setIfInBounds_toArray, List.set_cons_zero, List.set_cons_succ]
  go_big_quiet_step ((go_at_call 15; exact calm_next HN.out (C5.out _)))
  go_big_quiet_step (fail)
  go_big_quiet_step (fail)
  go_big_quiet_step (fail)
  go_big_quiet_step (fail)
  go_big_quiet_step (fail)
  go_big_quiet_step (fail)
  go_big_quiet_step (fail)
  go_big_quiet_step (fail)
  go_big_quiet_step (fail)
  go_big_quiet_step (fail)
  go_big_quiet_step (fail)
  refine wpQuiet_nil ?_
  rintro _ ⟨y, rfl⟩
  go_wp2
  go_ret
  exact ⟨rfl, by first | exact (HE.out y).n | (rw [hB]; exact (HE.out y).n)⟩
set_option maxRecDepth 100000 in
set_option maxHeartbeats 4000000 in
theorem faultRight_2 (p q u v c i x : Int) (r s b o d m : Int) (p' q' u' v' : Int) (hr : I64 r) (hb : I64 b) (ho : I64 o) (hd9 : I64 d) (w : World) :
    Calls Try.prog 3 #[.agg #[.int .i64 2, .int .i64 p, .int .i64 q, .int .i64 u, .int .i64 v, .int .i64 c, .int .i64 i, .int .i64 x], .agg #[.int .i64 r, .int .i64 s, .int .i64 b, .int .i64 o, .int .i64 d], .int .i64 m, .agg #[.int .i64 p', .int .i64 q', .int .i64 u', .int .i64 v']] w fun e w' => e = .returned (.bool true) ∧ Below w.heap.size w w' := by
  obtain ⟨n, j, hm⟩ := md_any m
  obtain ⟨z0, Z0⟩ : ∃ z, rtF n (hd r s b o d p q u v) 2 p q u v c i x = z := ⟨_, rfl⟩
  obtain ⟨z1, Z1⟩ : ∃ z, lz 2 p q u v p' q' u' v' = z := ⟨_, rfl⟩
  have A0 : Hid (∀ w : World, Calls Try.prog 8 #[] w fun e w' => e = .returned (.bool true) ∧ Below w.heap.size w w') := anchor11_any
  have A1 : Hid (∀ w : World, Calls Try.prog 9 #[.agg #[.int .i64 2, .int .i64 p, .int .i64 q, .int .i64 u, .int .i64 v, .int .i64 c, .int .i64 i, .int .i64 x]] w fun e w' => e = .returned (.agg #[.int .i64 2, .int .i64 p, .int .i64 q, .int .i64 u, .int .i64 v, .int .i64 c, .int .i64 i, .int .i64 x]) ∧ Below w.heap.size w w') := of11_any 2 p q u v c i x
  have C0 : Hid (∀ w : World, Calls Try.prog 10 #[.agg #[.int .i64 2, .int .i64 p, .int .i64 q, .int .i64 u, .int .i64 v, .int .i64 c, .int .i64 i, .int .i64 x], .agg #[.int .i64 r, .int .i64 s, .int .i64 b, .int .i64 o, .int .i64 d], .int .i64 m] w fun e w' => e = .returned (.bool z0) ∧ Below w.heap.size w w') := fun w => by rw [← Z0]; exact fRight_any 2 p q u v c i x r s b o d m n j hm w
  have C1 : Hid (∀ w : World, Calls Try.prog 11 #[.agg #[.int .i64 2, .int .i64 p, .int .i64 q, .int .i64 u, .int .i64 v, .int .i64 c, .int .i64 i, .int .i64 x], .agg #[.int .i64 r, .int .i64 s, .int .i64 b, .int .i64 o, .int .i64 d], .int .i64 m] w fun e w' => e = .returned (.bool z0) ∧ Below w.heap.size w w') := fun w => by rw [← Z0]; exact refRF_any 2 p q u v c i x r s b o d m n j hm hr hb ho hd9 w
  have C2 : Hid (∀ w : World, Calls Try.prog 12 #[.agg #[.int .i64 2, .int .i64 p, .int .i64 q, .int .i64 u, .int .i64 v, .int .i64 c, .int .i64 i, .int .i64 x]] w fun e w' => e = .returned (.bool true) ∧ Below w.heap.size w w') := fun w => by have := lasts_any 2 p q u v c i x w; rw [show ls 2 = true from by first | rfl | exact decide_eq_true (by omega) | exact decide_eq_false (by omega)] at this; exact this
  have C3 : Hid (∀ w : World, Calls Try.prog 13 #[.agg #[.int .i64 2, .int .i64 p, .int .i64 q, .int .i64 u, .int .i64 v, .int .i64 c, .int .i64 i, .int .i64 x], .agg #[.int .i64 p', .int .i64 q', .int .i64 u', .int .i64 v']] w fun e w' => e = .returned (.bool z1) ∧ Below w.heap.size w w') := fun w => by rw [← Z1]; exact lies_any 2 p q u v c i x p' q' u' v' w
  have C4 : Hid (∀ w : World, Calls Try.prog 14 #[.agg #[.int .i64 2, .int .i64 p, .int .i64 q, .int .i64 u, .int .i64 v, .int .i64 c, .int .i64 i, .int .i64 x], .agg #[.int .i64 p', .int .i64 q', .int .i64 u', .int .i64 v']] w fun e w' => e = .returned (.bool z1) ∧ Below w.heap.size w w') := fun w => by rw [← Z1]; exact refLies_any 2 p q u v c i x p' q' u' v' w
  have C5 : Hid (∀ w : World, Calls Try.prog 15 #[.agg #[.int .i64 2, .int .i64 p, .int .i64 q, .int .i64 u, .int .i64 v, .int .i64 c, .int .i64 i, .int .i64 x]] w fun e w' => e = .returned (.bool true) ∧ Below w.heap.size w w') := fun w => by have := narrow_any 2 p q u v c i x w; rw [show nw 2 = true from by first | rfl | exact decide_eq_true (by omega) | exact decide_eq_false (by omega)] at this; exact this
  clear Z0 Z1 hm hr hb ho hd9
  go_enter Try.func3, Try.ntmps3
  go_upto_region 1 with (fail)
  obtain ⟨B, hB⟩ : ∃ B, w.heap.size = B := ⟨_, rfl⟩
  obtain ⟨C, hC⟩ : ∃ C, B + 1 = C := ⟨_, rfl⟩
  obtain ⟨D, hD⟩ : ∃ D, C + 1 = D := ⟨_, rfl⟩
  obtain ⟨V, hV⟩ : ∃ V, ((w.alloc (.cells #[.int .i64 2, .int .i64 p, .int .i64 q, .int .i64 u, .int .i64 v, .int .i64 c, .int .i64 i, .int .i64 x] 25)).alloc (.cells #[.int .i64 r, .int .i64 s, .int .i64 b, .int .i64 o, .int .i64 d] 27)).alloc (.cells #[.int .i64 p', .int .i64 q', .int .i64 u', .int .i64 v'] 23) = V := ⟨_, rfl⟩
  have HI : Hid (Ft V B 2 p q u v c i x ∧ Gm V C r s b o d ∧ Pl V D p' q' u' v' ∧ Below B w V) := by
    rw [← hV, ← hD, ← hC, ← hB]
    have a1 := Gm.new (w.alloc (.cells #[.int .i64 2, .int .i64 p, .int .i64 q, .int .i64 u, .int .i64 v, .int .i64 c, .int .i64 i, .int .i64 x] 25)) r s b o d 27
    have a2 := Pl.new ((w.alloc (.cells #[.int .i64 2, .int .i64 p, .int .i64 q, .int .i64 u, .int .i64 v, .int .i64 c, .int .i64 i, .int .i64 x] 25)).alloc (.cells #[.int .i64 r, .int .i64 s, .int .i64 b, .int .i64 o, .int .i64 d] 27)) p' q' u' v' 23
    simp only [World.size_alloc] at a1 a2
    exact ⟨((Ft.new w 2 p q u v c i x _).alloc _).alloc _, a1.alloc _, a2, (((Below.refl _ w).alloc (Nat.le_refl _) _).alloc (by simp) _).alloc (by simp; omega) _⟩
  rw [hV, hB, hC, hD]
  clear hV hC hD
  go_wp2_with (fail)
  refine (A0.out _).mono ?_
  rintro e W0 ⟨rfl, b0⟩
  replace HI : Hid (Ft W0 B 2 p q u v c i x ∧ Gm W0 C r s b o d ∧ Pl W0 D p' q' u' v' ∧ Below B w W0) := ⟨HI.out.1.next b0, HI.out.2.1.next b0, HI.out.2.2.1.next b0, HI.out.2.2.2.trans (b0.mono (Nat.le_of_lt HI.out.1.lt))⟩
  have hr := HI.out.1.range
  clear b0
  go_wp2_with (first | refine wpList_load_mid rfl 25 _ rfl B 0 rfl [.int .i64 2, .int .i64 p, .int .i64 q, .int .i64 u, .int .i64 v, .int .i64 c, .int .i64 i, .int .i64 x] _ hr Try.underlying25 rfl infoF ?_)
  refine (A1.out _).mono ?_
  rintro e W1 ⟨rfl, b1⟩
  replace HI : Hid (Ft W1 B 2 p q u v c i x ∧ Gm W1 C r s b o d ∧ Pl W1 D p' q' u' v' ∧ Below B w W1) := ⟨HI.out.1.next b1, HI.out.2.1.next b1, HI.out.2.2.1.next b1, HI.out.2.2.2.trans (b1.mono (Nat.le_of_lt HI.out.1.lt))⟩
  clear b1 hr
  go_upto_region 4 with (fail)
  obtain ⟨E, hE⟩ : ∃ E, W1.heap.size = E := ⟨_, rfl⟩
  obtain ⟨W2, hW2⟩ : ∃ W2, W1.alloc (.cells #[.int .i64 2, .int .i64 p, .int .i64 q, .int .i64 u, .int .i64 v, .int .i64 c, .int .i64 i, .int .i64 x] 31) = W2 := ⟨_, rfl⟩
  have HS : Hid (Lw1 B C D E 2 p q u v c i x r s b o d p' q' u' v' w W2) := by
    rw [← hW2, ← hE]
    have lB := Nat.le_of_lt HI.out.1.lt
    exact ⟨HI.out.1.alloc _, HI.out.2.1.alloc _, HI.out.2.2.1.alloc _, Ft.new W1 2 p q u v c i x _, HI.out.2.2.2.alloc lB _⟩
  rw [hW2, hE]
  clear hW2 hE HI
  refine region_calm (by kernel_rfl) (by kernel_rfl) (fun W => Below W2.heap.size W2 W) (below_drew1 W2) ?_
  intro U hU f hf hof
  have HN : Hid (∀ u W, Below (f u).heap.size (f u) W → ∃ x, W = f x) := fun u W h => hof W ((hf u).trans (h.mono (hf u).size))
  have HE : Hid (∀ y, Lw1 B C D E 2 p q u v c i x r s b o d p' q' u' v' w (f y)) := fun y => HS.out.next (hf y)
  have f0 : ∀ y, (f y).cell? ⟨B, 0, none⟩ = some (.int .i64 2) := fun y => (HE.out y).f.c0
  clear hf hof HS
  refine quiet_load rfl 25 _ rfl B 0 rfl [.int .i64 2, .int .i64 p, .int .i64 q, .int .i64 u, .int .i64 v, .int .i64 c, .int .i64 i, .int .i64 x] _ (by rintro _ ⟨y, rfl⟩; exact (HE.out y).f.range) Try.underlying25 rfl infoF ?_
  simp only [Act.put, List.setIfInBounds_toArray, List.set_cons_zero, List.set_cons_succ]
  refine quiet_load rfl 27 _ rfl C 0 rfl [.int .i64 r, .int .i64 s, .int .i64 b, .int .i64 o, .int .i64 d] _ (by rintro _ ⟨y, rfl⟩; exact Bk.range (HE.out y).g) Try.underlying27 rfl infoGm ?_
  simp only [Act.put, List.setIfInBounds_toArray, List.set_cons_zero, List.set_cons_succ]
  go_big_quiet_step (fail)
  go_big_quiet_step ((go_at_call 10; exact calm_next HN.out (C0.out _)))
  refine quiet_load rfl 31 _ rfl E 0 rfl [.int .i64 2, .int .i64 p, .int .i64 q, .int .i64 u, .int .i64 v, .int .i64 c, .int .i64 i, .int .i64 x] _ (by rintro _ ⟨y, rfl⟩; exact (HE.out y).x.range) Try.underlying31 rfl infoG ?_
  simp only [Act.put, List.setIfInBounds_toArray, List.set_cons_zero, List.set_cons_succ]
  refine quiet_load rfl 27 _ rfl C 0 rfl [.int .i64 r, .int .i64 s, .int .i64 b, .int .i64 o, .int .i64 d] _ (by rintro _ ⟨y, rfl⟩; exact Bk.range (HE.out y).g) Try.underlying27 rfl infoGm ?_
  simp only [Act.put, List.setIfInBounds_toArray, List.set_cons_zero, List.set_cons_succ]
  go_big_quiet_step (fail)
  go_big_quiet_step ((go_at_call 11; exact calm_next HN.out (C1.out _)))
  go_big_quiet_step (fail)
  go_big_quiet_step (fail)
  refine quiet_load (by rfl) 25 _ rfl B 0 rfl [.int .i64 2, .int .i64 p, .int .i64 q, .int .i64 u, .int .i64 v, .int .i64 c, .int .i64 i, .int .i64 x] _ (by rintro _ ⟨y, rfl⟩; exact (HE.out y).f.range) Try.underlying25 rfl infoF ?_
  simp only [Act.put, List.setIfInBounds_toArray, List.set_cons_zero, List.set_cons_succ]
  go_big_quiet_step ((go_at_call 12; exact calm_next HN.out (C2.out _)))
  go_big_quiet_step (fail)
  go_big_quiet_step (fail)
  go_big_quiet_step (fail)
  go_big_quiet_step (fail)
  go_big_quiet_step (fail)
  go_big_quiet_step (fail)
  go_big_quiet_step (fail)
  go_big_quiet_step (fail)
  go_big_quiet_step (fail)
  go_big_quiet_step (fail)
  go_big_quiet_step (fail)
  refine quiet_load (by rfl) 25 _ rfl B 0 rfl [.int .i64 2, .int .i64 p, .int .i64 q, .int .i64 u, .int .i64 v, .int .i64 c, .int .i64 i, .int .i64 x] _ (by rintro _ ⟨y, rfl⟩; exact (HE.out y).f.range) Try.underlying25 rfl infoF ?_
  simp only [Act.put, List.setIfInBounds_toArray, List.set_cons_zero, List.set_cons_succ]
  refine quiet_load (by rfl) 23 _ rfl D 0 rfl [.int .i64 p', .int .i64 q', .int .i64 u', .int .i64 v'] _ (by rintro _ ⟨y, rfl⟩; exact (HE.out y).h.range) Try.underlying23 rfl infoP ?_
  simp only [Act.put, List.setIfInBounds_toArray, List.set_cons_zero, List.set_cons_succ]
  go_big_quiet_step ((go_at_call 13; exact calm_next HN.out (C3.out _)))
  refine quiet_load (by rfl) 31 _ rfl E 0 rfl [.int .i64 2, .int .i64 p, .int .i64 q, .int .i64 u, .int .i64 v, .int .i64 c, .int .i64 i, .int .i64 x] _ (by rintro _ ⟨y, rfl⟩; exact (HE.out y).x.range) Try.underlying31 rfl infoG ?_
  simp only [Act.put, List.setIfInBounds_toArray, List.set_cons_zero, List.set_cons_succ]
  refine quiet_load (by rfl) 23 _ rfl D 0 rfl [.int .i64 p', .int .i64 q', .int .i64 u', .int .i64 v'] _ (by rintro _ ⟨y, rfl⟩; exact (HE.out y).h.range) Try.underlying23 rfl infoP ?_
  simp only [Act.put, List.setIfInBounds_toArray, List.set_cons_zero, List.set_cons_succ]
  go_big_quiet_step ((go_at_call 14; exact calm_next HN.out (C4.out _)))
  go_big_quiet_step (fail)
  go_big_quiet_step (fail)
  go_big_quiet_step (fail)
  refine quiet_load (by rfl) 25 _ rfl B 0 rfl [.int .i64 2, .int .i64 p, .int .i64 q, .int .i64 u, .int .i64 v, .int .i64 c, .int .i64 i, .int .i64 x] _ (by rintro _ ⟨y, rfl⟩; exact (HE.out y).f.range) Try.underlying25 rfl infoF ?_
  simp only [Act.put, List.setIfInBounds_toArray, List.set_cons_zero, List.set_cons_succ]
  go_big_quiet_step ((go_at_call 15; exact calm_next HN.out (C5.out _)))
  go_big_quiet_step (fail)
  go_big_quiet_step (fail)
  go_big_quiet_step (fail)
  go_big_quiet_step (fail)
  go_big_quiet_step (fail)
  go_big_quiet_step (fail)
  go_big_quiet_step (fail)
  go_big_quiet_step (fail)
  go_big_quiet_step (fail)
  go_big_quiet_step (fail)
  go_big_quiet_step (fail)
  refine wpQuiet_nil ?_
  rintro _ ⟨y, rfl⟩
  go_wp2
  go_ret
  exact ⟨rfl, by first | exact (HE.out y).n | (rw [hB]; exact (HE.out y).n)⟩
set_option maxRecDepth 100000 in
set_option maxHeartbeats 4000000 in
theorem faultRight_mid (k p q u v c i x : Int) (r s b o d m : Int) (p' q' u' v' : Int) (hr : I64 r) (hb : I64 b) (ho : I64 o) (hd9 : I64 d) (hk : 3 ≤ k ∧ k ≤ 5) (w : World) :
    Calls Try.prog 3 #[.agg #[.int .i64 k, .int .i64 p, .int .i64 q, .int .i64 u, .int .i64 v, .int .i64 c, .int .i64 i, .int .i64 x], .agg #[.int .i64 r, .int .i64 s, .int .i64 b, .int .i64 o, .int .i64 d], .int .i64 m, .agg #[.int .i64 p', .int .i64 q', .int .i64 u', .int .i64 v']] w fun e w' => e = .returned (.bool true) ∧ Below w.heap.size w w' := by
  obtain ⟨n, j, hm⟩ := md_any m
  obtain ⟨z0, Z0⟩ : ∃ z, rtF n (hd r s b o d p q u v) k p q u v c i x = z := ⟨_, rfl⟩
  obtain ⟨z1, Z1⟩ : ∃ z, lz k p q u v p' q' u' v' = z := ⟨_, rfl⟩
  have e1 : (k == 1) = false := by rw [beq_eq_false_iff_ne]; omega
  have e2 : (k == 2) = false := by rw [beq_eq_false_iff_ne]; omega
  have e3 : decide (2 ≤ k) = true := decide_eq_true (by omega)
  have e4 : decide (k ≤ 5) = true := decide_eq_true (by omega)
  have A0 : Hid (∀ w : World, Calls Try.prog 8 #[] w fun e w' => e = .returned (.bool true) ∧ Below w.heap.size w w') := anchor11_any
  have A1 : Hid (∀ w : World, Calls Try.prog 9 #[.agg #[.int .i64 k, .int .i64 p, .int .i64 q, .int .i64 u, .int .i64 v, .int .i64 c, .int .i64 i, .int .i64 x]] w fun e w' => e = .returned (.agg #[.int .i64 k, .int .i64 p, .int .i64 q, .int .i64 u, .int .i64 v, .int .i64 c, .int .i64 i, .int .i64 x]) ∧ Below w.heap.size w w') := of11_any k p q u v c i x
  have C0 : Hid (∀ w : World, Calls Try.prog 10 #[.agg #[.int .i64 k, .int .i64 p, .int .i64 q, .int .i64 u, .int .i64 v, .int .i64 c, .int .i64 i, .int .i64 x], .agg #[.int .i64 r, .int .i64 s, .int .i64 b, .int .i64 o, .int .i64 d], .int .i64 m] w fun e w' => e = .returned (.bool z0) ∧ Below w.heap.size w w') := fun w => by rw [← Z0]; exact fRight_any k p q u v c i x r s b o d m n j hm w
  have C1 : Hid (∀ w : World, Calls Try.prog 11 #[.agg #[.int .i64 k, .int .i64 p, .int .i64 q, .int .i64 u, .int .i64 v, .int .i64 c, .int .i64 i, .int .i64 x], .agg #[.int .i64 r, .int .i64 s, .int .i64 b, .int .i64 o, .int .i64 d], .int .i64 m] w fun e w' => e = .returned (.bool z0) ∧ Below w.heap.size w w') := fun w => by rw [← Z0]; exact refRF_any k p q u v c i x r s b o d m n j hm hr hb ho hd9 w
  have C2 : Hid (∀ w : World, Calls Try.prog 12 #[.agg #[.int .i64 k, .int .i64 p, .int .i64 q, .int .i64 u, .int .i64 v, .int .i64 c, .int .i64 i, .int .i64 x]] w fun e w' => e = .returned (.bool true) ∧ Below w.heap.size w w') := fun w => by have := lasts_any k p q u v c i x w; rw [show ls k = true from by first | rfl | exact decide_eq_true (by omega) | exact decide_eq_false (by omega)] at this; exact this
  have C3 : Hid (∀ w : World, Calls Try.prog 13 #[.agg #[.int .i64 k, .int .i64 p, .int .i64 q, .int .i64 u, .int .i64 v, .int .i64 c, .int .i64 i, .int .i64 x], .agg #[.int .i64 p', .int .i64 q', .int .i64 u', .int .i64 v']] w fun e w' => e = .returned (.bool z1) ∧ Below w.heap.size w w') := fun w => by rw [← Z1]; exact lies_any k p q u v c i x p' q' u' v' w
  have C4 : Hid (∀ w : World, Calls Try.prog 14 #[.agg #[.int .i64 k, .int .i64 p, .int .i64 q, .int .i64 u, .int .i64 v, .int .i64 c, .int .i64 i, .int .i64 x], .agg #[.int .i64 p', .int .i64 q', .int .i64 u', .int .i64 v']] w fun e w' => e = .returned (.bool z1) ∧ Below w.heap.size w w') := fun w => by rw [← Z1]; exact refLies_any k p q u v c i x p' q' u' v' w
  have C5 : Hid (∀ w : World, Calls Try.prog 15 #[.agg #[.int .i64 k, .int .i64 p, .int .i64 q, .int .i64 u, .int .i64 v, .int .i64 c, .int .i64 i, .int .i64 x]] w fun e w' => e = .returned (.bool false) ∧ Below w.heap.size w w') := fun w => by have := narrow_any k p q u v c i x w; rw [show nw k = false from by first | rfl | exact decide_eq_true (by omega) | exact decide_eq_false (by omega)] at this; exact this
  clear Z0 Z1 hm hr hb ho hd9
  go_enter Try.func3, Try.ntmps3
  go_upto_region 1 with (fail)
  obtain ⟨B, hB⟩ : ∃ B, w.heap.size = B := ⟨_, rfl⟩
  obtain ⟨C, hC⟩ : ∃ C, B + 1 = C := ⟨_, rfl⟩
  obtain ⟨D, hD⟩ : ∃ D, C + 1 = D := ⟨_, rfl⟩
  obtain ⟨V, hV⟩ : ∃ V, ((w.alloc (.cells #[.int .i64 k, .int .i64 p, .int .i64 q, .int .i64 u, .int .i64 v, .int .i64 c, .int .i64 i, .int .i64 x] 25)).alloc (.cells #[.int .i64 r, .int .i64 s, .int .i64 b, .int .i64 o, .int .i64 d] 27)).alloc (.cells #[.int .i64 p', .int .i64 q', .int .i64 u', .int .i64 v'] 23) = V := ⟨_, rfl⟩
  have HI : Hid (Ft V B k p q u v c i x ∧ Gm V C r s b o d ∧ Pl V D p' q' u' v' ∧ Below B w V) := by
    rw [← hV, ← hD, ← hC, ← hB]
    have a1 := Gm.new (w.alloc (.cells #[.int .i64 k, .int .i64 p, .int .i64 q, .int .i64 u, .int .i64 v, .int .i64 c, .int .i64 i, .int .i64 x] 25)) r s b o d 27
    have a2 := Pl.new ((w.alloc (.cells #[.int .i64 k, .int .i64 p, .int .i64 q, .int .i64 u, .int .i64 v, .int .i64 c, .int .i64 i, .int .i64 x] 25)).alloc (.cells #[.int .i64 r, .int .i64 s, .int .i64 b, .int .i64 o, .int .i64 d] 27)) p' q' u' v' 23
    simp only [World.size_alloc] at a1 a2
    exact ⟨((Ft.new w k p q u v c i x _).alloc _).alloc _, a1.alloc _, a2, (((Below.refl _ w).alloc (Nat.le_refl _) _).alloc (by simp) _).alloc (by simp; omega) _⟩
  rw [hV, hB, hC, hD]
  clear hV hC hD
  go_wp2_with (fail)
  refine (A0.out _).mono ?_
  rintro e W0 ⟨rfl, b0⟩
  replace HI : Hid (Ft W0 B k p q u v c i x ∧ Gm W0 C r s b o d ∧ Pl W0 D p' q' u' v' ∧ Below B w W0) := ⟨HI.out.1.next b0, HI.out.2.1.next b0, HI.out.2.2.1.next b0, HI.out.2.2.2.trans (b0.mono (Nat.le_of_lt HI.out.1.lt))⟩
  have hr := HI.out.1.range
  clear b0
  go_wp2_with (first | refine wpList_load_mid rfl 25 _ rfl B 0 rfl [.int .i64 k, .int .i64 p, .int .i64 q, .int .i64 u, .int .i64 v, .int .i64 c, .int .i64 i, .int .i64 x] _ hr Try.underlying25 rfl infoF ?_)
  refine (A1.out _).mono ?_
  rintro e W1 ⟨rfl, b1⟩
  replace HI : Hid (Ft W1 B k p q u v c i x ∧ Gm W1 C r s b o d ∧ Pl W1 D p' q' u' v' ∧ Below B w W1) := ⟨HI.out.1.next b1, HI.out.2.1.next b1, HI.out.2.2.1.next b1, HI.out.2.2.2.trans (b1.mono (Nat.le_of_lt HI.out.1.lt))⟩
  clear b1 hr
  go_upto_region 4 with (fail)
  obtain ⟨E, hE⟩ : ∃ E, W1.heap.size = E := ⟨_, rfl⟩
  obtain ⟨W2, hW2⟩ : ∃ W2, W1.alloc (.cells #[.int .i64 k, .int .i64 p, .int .i64 q, .int .i64 u, .int .i64 v, .int .i64 c, .int .i64 i, .int .i64 x] 31) = W2 := ⟨_, rfl⟩
  have HS : Hid (Lw1 B C D E k p q u v c i x r s b o d p' q' u' v' w W2) := by
    rw [← hW2, ← hE]
    have lB := Nat.le_of_lt HI.out.1.lt
    exact ⟨HI.out.1.alloc _, HI.out.2.1.alloc _, HI.out.2.2.1.alloc _, Ft.new W1 k p q u v c i x _, HI.out.2.2.2.alloc lB _⟩
  rw [hW2, hE]
  clear hW2 hE HI
  refine region_calm (by kernel_rfl) (by kernel_rfl) (fun W => Below W2.heap.size W2 W) (below_drew1 W2) ?_
  intro U hU f hf hof
  have HN : Hid (∀ u W, Below (f u).heap.size (f u) W → ∃ x, W = f x) := fun u W h => hof W ((hf u).trans (h.mono (hf u).size))
  have HE : Hid (∀ y, Lw1 B C D E k p q u v c i x r s b o d p' q' u' v' w (f y)) := fun y => HS.out.next (hf y)
  have f0 : ∀ y, (f y).cell? ⟨B, 0, none⟩ = some (.int .i64 k) := fun y => (HE.out y).f.c0
  clear hf hof HS
  refine quiet_load rfl 25 _ rfl B 0 rfl [.int .i64 k, .int .i64 p, .int .i64 q, .int .i64 u, .int .i64 v, .int .i64 c, .int .i64 i, .int .i64 x] _ (by rintro _ ⟨y, rfl⟩; exact (HE.out y).f.range) Try.underlying25 rfl infoF ?_
  simp only [Act.put, List.setIfInBounds_toArray, List.set_cons_zero, List.set_cons_succ]
  refine quiet_load rfl 27 _ rfl C 0 rfl [.int .i64 r, .int .i64 s, .int .i64 b, .int .i64 o, .int .i64 d] _ (by rintro _ ⟨y, rfl⟩; exact Bk.range (HE.out y).g) Try.underlying27 rfl infoGm ?_
  simp only [Act.put, List.setIfInBounds_toArray, List.set_cons_zero, List.set_cons_succ]
  go_big_quiet_step (fail)
  go_big_quiet_step ((go_at_call 10; exact calm_next HN.out (C0.out _)))
  refine quiet_load rfl 31 _ rfl E 0 rfl [.int .i64 k, .int .i64 p, .int .i64 q, .int .i64 u, .int .i64 v, .int .i64 c, .int .i64 i, .int .i64 x] _ (by rintro _ ⟨y, rfl⟩; exact (HE.out y).x.range) Try.underlying31 rfl infoG ?_
  simp only [Act.put, List.setIfInBounds_toArray, List.set_cons_zero, List.set_cons_succ]
  refine quiet_load rfl 27 _ rfl C 0 rfl [.int .i64 r, .int .i64 s, .int .i64 b, .int .i64 o, .int .i64 d] _ (by rintro _ ⟨y, rfl⟩; exact Bk.range (HE.out y).g) Try.underlying27 rfl infoGm ?_
  simp only [Act.put, List.setIfInBounds_toArray, List.set_cons_zero, List.set_cons_succ]
  go_big_quiet_step (fail)
  go_big_quiet_step ((go_at_call 11; exact calm_next HN.out (C1.out _)))
  go_big_quiet_step (fail)
  go_big_quiet_step (fail)
  refine quiet_load (by rfl) 25 _ rfl B 0 rfl [.int .i64 k, .int .i64 p, .int .i64 q, .int .i64 u, .int .i64 v, .int .i64 c, .int .i64 i, .int .i64 x] _ (by rintro _ ⟨y, rfl⟩; exact (HE.out y).f.range) Try.underlying25 rfl infoF ?_
  simp only [Act.put, List.setIfInBounds_toArray, List.set_cons_zero, List.set_cons_succ]
  go_big_quiet_step ((go_at_call 12; exact calm_next HN.out (C2.out _)))
  go_big_quiet_step (fail)
  go_big_quiet_step (fail)
  go_big_quiet_step (fail)
  go_big_quiet_step (fail)
  go_big_quiet_step (fail)
  go_big_quiet_step (fail)
  go_big_quiet_step (fail)
  go_big_quiet_step (fail)
  go_big_quiet_step (fail)
  go_big_quiet_step (fail)
  go_big_quiet_step (fail)
  refine quiet_load (by rfl) 25 _ rfl B 0 rfl [.int .i64 k, .int .i64 p, .int .i64 q, .int .i64 u, .int .i64 v, .int .i64 c, .int .i64 i, .int .i64 x] _ (by rintro _ ⟨y, rfl⟩; exact (HE.out y).f.range) Try.underlying25 rfl infoF ?_
  simp only [Act.put, List.setIfInBounds_toArray, List.set_cons_zero, List.set_cons_succ]
  refine quiet_load (by rfl) 23 _ rfl D 0 rfl [.int .i64 p', .int .i64 q', .int .i64 u', .int .i64 v'] _ (by rintro _ ⟨y, rfl⟩; exact (HE.out y).h.range) Try.underlying23 rfl infoP ?_
  simp only [Act.put, List.setIfInBounds_toArray, List.set_cons_zero, List.set_cons_succ]
  go_big_quiet_step ((go_at_call 13; exact calm_next HN.out (C3.out _)))
  refine quiet_load (by rfl) 31 _ rfl E 0 rfl [.int .i64 k, .int .i64 p, .int .i64 q, .int .i64 u, .int .i64 v, .int .i64 c, .int .i64 i, .int .i64 x] _ (by rintro _ ⟨y, rfl⟩; exact (HE.out y).x.range) Try.underlying31 rfl infoG ?_
  simp only [Act.put, List.setIfInBounds_toArray, List.set_cons_zero, List.set_cons_succ]
  refine quiet_load (by rfl) 23 _ rfl D 0 rfl [.int .i64 p', .int .i64 q', .int .i64 u', .int .i64 v'] _ (by rintro _ ⟨y, rfl⟩; exact (HE.out y).h.range) Try.underlying23 rfl infoP ?_
  simp only [Act.put, List.setIfInBounds_toArray, List.set_cons_zero, List.set_cons_succ]
  go_big_quiet_step ((go_at_call 14; exact calm_next HN.out (C4.out _)))
  go_big_quiet_step (fail)
  go_big_quiet_step (fail)
  go_big_quiet_step (fail)
  refine quiet_load (by rfl) 25 _ rfl B 0 rfl [.int .i64 k, .int .i64 p, .int .i64 q, .int .i64 u, .int .i64 v, .int .i64 c, .int .i64 i, .int .i64 x] _ (by rintro _ ⟨y, rfl⟩; exact (HE.out y).f.range) Try.underlying25 rfl infoF ?_
  simp only [Act.put, List.setIfInBounds_toArray, List.set_cons_zero, List.set_cons_succ]
  go_big_quiet_step ((go_at_call 15; exact calm_next HN.out (C5.out _)))
  go_big_quiet_step (fail)
  go_big_quiet_step (fail)
  go_big_quiet_step (fail)
  go_big_quiet_step (fail)
  go_big_quiet_step (fail)
  go_big_quiet_step (fail)
  go_big_quiet_step (fail)
  go_big_quiet_step (fail)
  go_big_quiet_step (fail)
  go_big_quiet_step (fail)
  go_big_quiet_step (fail)
  refine wpQuiet_nil ?_
  rintro _ ⟨y, rfl⟩
  go_wp2
  go_ret
  exact ⟨rfl, by first | exact (HE.out y).n | (rw [hB]; exact (HE.out y).n)⟩
set_option maxRecDepth 100000 in
set_option maxHeartbeats 4000000 in
theorem faultRight_high (k p q u v c i x : Int) (r s b o d m : Int) (p' q' u' v' : Int) (hr : I64 r) (hb : I64 b) (ho : I64 o) (hd9 : I64 d) (hk : 5 < k) (w : World) :
    Calls Try.prog 3 #[.agg #[.int .i64 k, .int .i64 p, .int .i64 q, .int .i64 u, .int .i64 v, .int .i64 c, .int .i64 i, .int .i64 x], .agg #[.int .i64 r, .int .i64 s, .int .i64 b, .int .i64 o, .int .i64 d], .int .i64 m, .agg #[.int .i64 p', .int .i64 q', .int .i64 u', .int .i64 v']] w fun e w' => e = .returned (.bool true) ∧ Below w.heap.size w w' := by
  obtain ⟨n, j, hm⟩ := md_any m
  obtain ⟨z0, Z0⟩ : ∃ z, rtF n (hd r s b o d p q u v) k p q u v c i x = z := ⟨_, rfl⟩
  obtain ⟨z1, Z1⟩ : ∃ z, lz k p q u v p' q' u' v' = z := ⟨_, rfl⟩
  have e1 : (k == 1) = false := by rw [beq_eq_false_iff_ne]; omega
  have e2 : (k == 2) = false := by rw [beq_eq_false_iff_ne]; omega
  have e3 : decide (2 ≤ k) = true := decide_eq_true (by omega)
  have e4 : decide (k ≤ 5) = false := decide_eq_false (by omega)
  have A0 : Hid (∀ w : World, Calls Try.prog 8 #[] w fun e w' => e = .returned (.bool true) ∧ Below w.heap.size w w') := anchor11_any
  have A1 : Hid (∀ w : World, Calls Try.prog 9 #[.agg #[.int .i64 k, .int .i64 p, .int .i64 q, .int .i64 u, .int .i64 v, .int .i64 c, .int .i64 i, .int .i64 x]] w fun e w' => e = .returned (.agg #[.int .i64 k, .int .i64 p, .int .i64 q, .int .i64 u, .int .i64 v, .int .i64 c, .int .i64 i, .int .i64 x]) ∧ Below w.heap.size w w') := of11_any k p q u v c i x
  have C0 : Hid (∀ w : World, Calls Try.prog 10 #[.agg #[.int .i64 k, .int .i64 p, .int .i64 q, .int .i64 u, .int .i64 v, .int .i64 c, .int .i64 i, .int .i64 x], .agg #[.int .i64 r, .int .i64 s, .int .i64 b, .int .i64 o, .int .i64 d], .int .i64 m] w fun e w' => e = .returned (.bool z0) ∧ Below w.heap.size w w') := fun w => by rw [← Z0]; exact fRight_any k p q u v c i x r s b o d m n j hm w
  have C1 : Hid (∀ w : World, Calls Try.prog 11 #[.agg #[.int .i64 k, .int .i64 p, .int .i64 q, .int .i64 u, .int .i64 v, .int .i64 c, .int .i64 i, .int .i64 x], .agg #[.int .i64 r, .int .i64 s, .int .i64 b, .int .i64 o, .int .i64 d], .int .i64 m] w fun e w' => e = .returned (.bool z0) ∧ Below w.heap.size w w') := fun w => by rw [← Z0]; exact refRF_any k p q u v c i x r s b o d m n j hm hr hb ho hd9 w
  have C2 : Hid (∀ w : World, Calls Try.prog 12 #[.agg #[.int .i64 k, .int .i64 p, .int .i64 q, .int .i64 u, .int .i64 v, .int .i64 c, .int .i64 i, .int .i64 x]] w fun e w' => e = .returned (.bool false) ∧ Below w.heap.size w w') := fun w => by have := lasts_any k p q u v c i x w; rw [show ls k = false from by first | rfl | exact decide_eq_true (by omega) | exact decide_eq_false (by omega)] at this; exact this
  have C3 : Hid (∀ w : World, Calls Try.prog 13 #[.agg #[.int .i64 k, .int .i64 p, .int .i64 q, .int .i64 u, .int .i64 v, .int .i64 c, .int .i64 i, .int .i64 x], .agg #[.int .i64 p', .int .i64 q', .int .i64 u', .int .i64 v']] w fun e w' => e = .returned (.bool z1) ∧ Below w.heap.size w w') := fun w => by rw [← Z1]; exact lies_any k p q u v c i x p' q' u' v' w
  have C4 : Hid (∀ w : World, Calls Try.prog 14 #[.agg #[.int .i64 k, .int .i64 p, .int .i64 q, .int .i64 u, .int .i64 v, .int .i64 c, .int .i64 i, .int .i64 x], .agg #[.int .i64 p', .int .i64 q', .int .i64 u', .int .i64 v']] w fun e w' => e = .returned (.bool z1) ∧ Below w.heap.size w w') := fun w => by rw [← Z1]; exact refLies_any k p q u v c i x p' q' u' v' w
  have C5 : Hid (∀ w : World, Calls Try.prog 15 #[.agg #[.int .i64 k, .int .i64 p, .int .i64 q, .int .i64 u, .int .i64 v, .int .i64 c, .int .i64 i, .int .i64 x]] w fun e w' => e = .returned (.bool false) ∧ Below w.heap.size w w') := fun w => by have := narrow_any k p q u v c i x w; rw [show nw k = false from by first | rfl | exact decide_eq_true (by omega) | exact decide_eq_false (by omega)] at this; exact this
  clear Z0 Z1 hm hr hb ho hd9
  go_enter Try.func3, Try.ntmps3
  go_upto_region 1 with (fail)
  obtain ⟨B, hB⟩ : ∃ B, w.heap.size = B := ⟨_, rfl⟩
  obtain ⟨C, hC⟩ : ∃ C, B + 1 = C := ⟨_, rfl⟩
  obtain ⟨D, hD⟩ : ∃ D, C + 1 = D := ⟨_, rfl⟩
  obtain ⟨V, hV⟩ : ∃ V, ((w.alloc (.cells #[.int .i64 k, .int .i64 p, .int .i64 q, .int .i64 u, .int .i64 v, .int .i64 c, .int .i64 i, .int .i64 x] 25)).alloc (.cells #[.int .i64 r, .int .i64 s, .int .i64 b, .int .i64 o, .int .i64 d] 27)).alloc (.cells #[.int .i64 p', .int .i64 q', .int .i64 u', .int .i64 v'] 23) = V := ⟨_, rfl⟩
  have HI : Hid (Ft V B k p q u v c i x ∧ Gm V C r s b o d ∧ Pl V D p' q' u' v' ∧ Below B w V) := by
    rw [← hV, ← hD, ← hC, ← hB]
    have a1 := Gm.new (w.alloc (.cells #[.int .i64 k, .int .i64 p, .int .i64 q, .int .i64 u, .int .i64 v, .int .i64 c, .int .i64 i, .int .i64 x] 25)) r s b o d 27
    have a2 := Pl.new ((w.alloc (.cells #[.int .i64 k, .int .i64 p, .int .i64 q, .int .i64 u, .int .i64 v, .int .i64 c, .int .i64 i, .int .i64 x] 25)).alloc (.cells #[.int .i64 r, .int .i64 s, .int .i64 b, .int .i64 o, .int .i64 d] 27)) p' q' u' v' 23
    simp only [World.size_alloc] at a1 a2
    exact ⟨((Ft.new w k p q u v c i x _).alloc _).alloc _, a1.alloc _, a2, (((Below.refl _ w).alloc (Nat.le_refl _) _).alloc (by simp) _).alloc (by simp; omega) _⟩
  rw [hV, hB, hC, hD]
  clear hV hC hD
  go_wp2_with (fail)
  refine (A0.out _).mono ?_
  rintro e W0 ⟨rfl, b0⟩
  replace HI : Hid (Ft W0 B k p q u v c i x ∧ Gm W0 C r s b o d ∧ Pl W0 D p' q' u' v' ∧ Below B w W0) := ⟨HI.out.1.next b0, HI.out.2.1.next b0, HI.out.2.2.1.next b0, HI.out.2.2.2.trans (b0.mono (Nat.le_of_lt HI.out.1.lt))⟩
  have hr := HI.out.1.range
  clear b0
  go_wp2_with (first | refine wpList_load_mid rfl 25 _ rfl B 0 rfl [.int .i64 k, .int .i64 p, .int .i64 q, .int .i64 u, .int .i64 v, .int .i64 c, .int .i64 i, .int .i64 x] _ hr Try.underlying25 rfl infoF ?_)
  refine (A1.out _).mono ?_
  rintro e W1 ⟨rfl, b1⟩
  replace HI : Hid (Ft W1 B k p q u v c i x ∧ Gm W1 C r s b o d ∧ Pl W1 D p' q' u' v' ∧ Below B w W1) := ⟨HI.out.1.next b1, HI.out.2.1.next b1, HI.out.2.2.1.next b1, HI.out.2.2.2.trans (b1.mono (Nat.le_of_lt HI.out.1.lt))⟩
  clear b1 hr
  go_upto_region 4 with (fail)
  obtain ⟨E, hE⟩ : ∃ E, W1.heap.size = E := ⟨_, rfl⟩
  obtain ⟨W2, hW2⟩ : ∃ W2, W1.alloc (.cells #[.int .i64 k, .int .i64 p, .int .i64 q, .int .i64 u, .int .i64 v, .int .i64 c, .int .i64 i, .int .i64 x] 31) = W2 := ⟨_, rfl⟩
  have HS : Hid (Lw1 B C D E k p q u v c i x r s b o d p' q' u' v' w W2) := by
    rw [← hW2, ← hE]
    have lB := Nat.le_of_lt HI.out.1.lt
    exact ⟨HI.out.1.alloc _, HI.out.2.1.alloc _, HI.out.2.2.1.alloc _, Ft.new W1 k p q u v c i x _, HI.out.2.2.2.alloc lB _⟩
  rw [hW2, hE]
  clear hW2 hE HI
  refine region_calm (by kernel_rfl) (by kernel_rfl) (fun W => Below W2.heap.size W2 W) (below_drew1 W2) ?_
  intro U hU f hf hof
  have HN : Hid (∀ u W, Below (f u).heap.size (f u) W → ∃ x, W = f x) := fun u W h => hof W ((hf u).trans (h.mono (hf u).size))
  have HE : Hid (∀ y, Lw1 B C D E k p q u v c i x r s b o d p' q' u' v' w (f y)) := fun y => HS.out.next (hf y)
  have f0 : ∀ y, (f y).cell? ⟨B, 0, none⟩ = some (.int .i64 k) := fun y => (HE.out y).f.c0
  clear hf hof HS
  refine quiet_load rfl 25 _ rfl B 0 rfl [.int .i64 k, .int .i64 p, .int .i64 q, .int .i64 u, .int .i64 v, .int .i64 c, .int .i64 i, .int .i64 x] _ (by rintro _ ⟨y, rfl⟩; exact (HE.out y).f.range) Try.underlying25 rfl infoF ?_
  simp only [Act.put, List.setIfInBounds_toArray, List.set_cons_zero, List.set_cons_succ]
  refine quiet_load rfl 27 _ rfl C 0 rfl [.int .i64 r, .int .i64 s, .int .i64 b, .int .i64 o, .int .i64 d] _ (by rintro _ ⟨y, rfl⟩; exact Bk.range (HE.out y).g) Try.underlying27 rfl infoGm ?_
  simp only [Act.put, List.setIfInBounds_toArray, List.set_cons_zero, List.set_cons_succ]
  go_big_quiet_step (fail)
  go_big_quiet_step ((go_at_call 10; exact calm_next HN.out (C0.out _)))
  refine quiet_load rfl 31 _ rfl E 0 rfl [.int .i64 k, .int .i64 p, .int .i64 q, .int .i64 u, .int .i64 v, .int .i64 c, .int .i64 i, .int .i64 x] _ (by rintro _ ⟨y, rfl⟩; exact (HE.out y).x.range) Try.underlying31 rfl infoG ?_
  simp only [Act.put, List.setIfInBounds_toArray, List.set_cons_zero, List.set_cons_succ]
  refine quiet_load rfl 27 _ rfl C 0 rfl [.int .i64 r, .int .i64 s, .int .i64 b, .int .i64 o, .int .i64 d] _ (by rintro _ ⟨y, rfl⟩; exact Bk.range (HE.out y).g) Try.underlying27 rfl infoGm ?_
  simp only [Act.put, List.setIfInBounds_toArray, List.set_cons_zero, List.set_cons_succ]
  go_big_quiet_step (fail)
  go_big_quiet_step ((go_at_call 11; exact calm_next HN.out (C1.out _)))
  go_big_quiet_step (fail)
  go_big_quiet_step (fail)
  refine quiet_load (by rfl) 25 _ rfl B 0 rfl [.int .i64 k, .int .i64 p, .int .i64 q, .int .i64 u, .int .i64 v, .int .i64 c, .int .i64 i, .int .i64 x] _ (by rintro _ ⟨y, rfl⟩; exact (HE.out y).f.range) Try.underlying25 rfl infoF ?_
  simp only [Act.put, List.setIfInBounds_toArray, List.set_cons_zero, List.set_cons_succ]
  go_big_quiet_step ((go_at_call 12; exact calm_next HN.out (C2.out _)))
  go_big_quiet_step (fail)
  go_big_quiet_step (fail)
  go_big_quiet_step (fail)
  go_big_quiet_step (fail)
  go_big_quiet_step (fail)
  go_big_quiet_step (fail)
  go_big_quiet_step (fail)
  go_big_quiet_step (fail)
  go_big_quiet_step (fail)
  go_big_quiet_step (fail)
  go_big_quiet_step (fail)
  refine quiet_load (by rfl) 25 _ rfl B 0 rfl [.int .i64 k, .int .i64 p, .int .i64 q, .int .i64 u, .int .i64 v, .int .i64 c, .int .i64 i, .int .i64 x] _ (by rintro _ ⟨y, rfl⟩; exact (HE.out y).f.range) Try.underlying25 rfl infoF ?_
  simp only [Act.put, List.setIfInBounds_toArray, List.set_cons_zero, List.set_cons_succ]
  refine quiet_load (by rfl) 23 _ rfl D 0 rfl [.int .i64 p', .int .i64 q', .int .i64 u', .int .i64 v'] _ (by rintro _ ⟨y, rfl⟩; exact (HE.out y).h.range) Try.underlying23 rfl infoP ?_
  simp only [Act.put, List.setIfInBounds_toArray, List.set_cons_zero, List.set_cons_succ]
  go_big_quiet_step ((go_at_call 13; exact calm_next HN.out (C3.out _)))
  refine quiet_load (by rfl) 31 _ rfl E 0 rfl [.int .i64 k, .int .i64 p, .int .i64 q, .int .i64 u, .int .i64 v, .int .i64 c, .int .i64 i, .int .i64 x] _ (by rintro _ ⟨y, rfl⟩; exact (HE.out y).x.range) Try.underlying31 rfl infoG ?_
  simp only [Act.put, List.setIfInBounds_toArray, List.set_cons_zero, List.set_cons_succ]
  refine quiet_load (by rfl) 23 _ rfl D 0 rfl [.int .i64 p', .int .i64 q', .int .i64 u', .int .i64 v'] _ (by rintro _ ⟨y, rfl⟩; exact (HE.out y).h.range) Try.underlying23 rfl infoP ?_
  simp only [Act.put, List.setIfInBounds_toArray, List.set_cons_zero, List.set_cons_succ]
  go_big_quiet_step ((go_at_call 14; exact calm_next HN.out (C4.out _)))
  go_big_quiet_step (fail)
  go_big_quiet_step (fail)
  go_big_quiet_step (fail)
  refine quiet_load (by rfl) 25 _ rfl B 0 rfl [.int .i64 k, .int .i64 p, .int .i64 q, .int .i64 u, .int .i64 v, .int .i64 c, .int .i64 i, .int .i64 x] _ (by rintro _ ⟨y, rfl⟩; exact (HE.out y).f.range) Try.underlying25 rfl infoF ?_
  simp only [Act.put, List.setIfInBounds_toArray, List.set_cons_zero, List.set_cons_succ]
  go_big_quiet_step ((go_at_call 15; exact calm_next HN.out (C5.out _)))
  go_big_quiet_step (fail)
  go_big_quiet_step (fail)
  go_big_quiet_step (fail)
  go_big_quiet_step (fail)
  go_big_quiet_step (fail)
  go_big_quiet_step (fail)
  go_big_quiet_step (fail)
  go_big_quiet_step (fail)
  go_big_quiet_step (fail)
  go_big_quiet_step (fail)
  go_big_quiet_step (fail)
  refine wpQuiet_nil ?_
  rintro _ ⟨y, rfl⟩
  go_wp2
  go_ret
  exact ⟨rfl, by first | exact (HE.out y).n | (rw [hB]; exact (HE.out y).n)⟩
set_option maxRecDepth 100000 in
set_option maxHeartbeats 4000000 in
theorem faultRight_low (k p q u v c i x : Int) (r s b o d m : Int) (p' q' u' v' : Int) (hr : I64 r) (hb : I64 b) (ho : I64 o) (hd9 : I64 d) (hk : k < 1) (w : World) :
    Calls Try.prog 3 #[.agg #[.int .i64 k, .int .i64 p, .int .i64 q, .int .i64 u, .int .i64 v, .int .i64 c, .int .i64 i, .int .i64 x], .agg #[.int .i64 r, .int .i64 s, .int .i64 b, .int .i64 o, .int .i64 d], .int .i64 m, .agg #[.int .i64 p', .int .i64 q', .int .i64 u', .int .i64 v']] w fun e w' => e = .returned (.bool true) ∧ Below w.heap.size w w' := by
  obtain ⟨n, j, hm⟩ := md_any m
  obtain ⟨z0, Z0⟩ : ∃ z, rtF n (hd r s b o d p q u v) k p q u v c i x = z := ⟨_, rfl⟩
  obtain ⟨z1, Z1⟩ : ∃ z, lz k p q u v p' q' u' v' = z := ⟨_, rfl⟩
  have e1 : (k == 1) = false := by rw [beq_eq_false_iff_ne]; omega
  have e2 : (k == 2) = false := by rw [beq_eq_false_iff_ne]; omega
  have e3 : decide (2 ≤ k) = false := decide_eq_false (by omega)
  have A0 : Hid (∀ w : World, Calls Try.prog 8 #[] w fun e w' => e = .returned (.bool true) ∧ Below w.heap.size w w') := anchor11_any
  have A1 : Hid (∀ w : World, Calls Try.prog 9 #[.agg #[.int .i64 k, .int .i64 p, .int .i64 q, .int .i64 u, .int .i64 v, .int .i64 c, .int .i64 i, .int .i64 x]] w fun e w' => e = .returned (.agg #[.int .i64 k, .int .i64 p, .int .i64 q, .int .i64 u, .int .i64 v, .int .i64 c, .int .i64 i, .int .i64 x]) ∧ Below w.heap.size w w') := of11_any k p q u v c i x
  have C0 : Hid (∀ w : World, Calls Try.prog 10 #[.agg #[.int .i64 k, .int .i64 p, .int .i64 q, .int .i64 u, .int .i64 v, .int .i64 c, .int .i64 i, .int .i64 x], .agg #[.int .i64 r, .int .i64 s, .int .i64 b, .int .i64 o, .int .i64 d], .int .i64 m] w fun e w' => e = .returned (.bool z0) ∧ Below w.heap.size w w') := fun w => by rw [← Z0]; exact fRight_any k p q u v c i x r s b o d m n j hm w
  have C1 : Hid (∀ w : World, Calls Try.prog 11 #[.agg #[.int .i64 k, .int .i64 p, .int .i64 q, .int .i64 u, .int .i64 v, .int .i64 c, .int .i64 i, .int .i64 x], .agg #[.int .i64 r, .int .i64 s, .int .i64 b, .int .i64 o, .int .i64 d], .int .i64 m] w fun e w' => e = .returned (.bool z0) ∧ Below w.heap.size w w') := fun w => by rw [← Z0]; exact refRF_any k p q u v c i x r s b o d m n j hm hr hb ho hd9 w
  have C2 : Hid (∀ w : World, Calls Try.prog 12 #[.agg #[.int .i64 k, .int .i64 p, .int .i64 q, .int .i64 u, .int .i64 v, .int .i64 c, .int .i64 i, .int .i64 x]] w fun e w' => e = .returned (.bool false) ∧ Below w.heap.size w w') := fun w => by have := lasts_any k p q u v c i x w; rw [show ls k = false from by first | rfl | exact decide_eq_true (by omega) | exact decide_eq_false (by omega)] at this; exact this
  have C3 : Hid (∀ w : World, Calls Try.prog 13 #[.agg #[.int .i64 k, .int .i64 p, .int .i64 q, .int .i64 u, .int .i64 v, .int .i64 c, .int .i64 i, .int .i64 x], .agg #[.int .i64 p', .int .i64 q', .int .i64 u', .int .i64 v']] w fun e w' => e = .returned (.bool z1) ∧ Below w.heap.size w w') := fun w => by rw [← Z1]; exact lies_any k p q u v c i x p' q' u' v' w
  have C4 : Hid (∀ w : World, Calls Try.prog 14 #[.agg #[.int .i64 k, .int .i64 p, .int .i64 q, .int .i64 u, .int .i64 v, .int .i64 c, .int .i64 i, .int .i64 x], .agg #[.int .i64 p', .int .i64 q', .int .i64 u', .int .i64 v']] w fun e w' => e = .returned (.bool z1) ∧ Below w.heap.size w w') := fun w => by rw [← Z1]; exact refLies_any k p q u v c i x p' q' u' v' w
  have C5 : Hid (∀ w : World, Calls Try.prog 15 #[.agg #[.int .i64 k, .int .i64 p, .int .i64 q, .int .i64 u, .int .i64 v, .int .i64 c, .int .i64 i, .int .i64 x]] w fun e w' => e = .returned (.bool false) ∧ Below w.heap.size w w') := fun w => by have := narrow_any k p q u v c i x w; rw [show nw k = false from by first | rfl | exact decide_eq_true (by omega) | exact decide_eq_false (by omega)] at this; exact this
  clear Z0 Z1 hm hr hb ho hd9
  go_enter Try.func3, Try.ntmps3
  go_upto_region 1 with (fail)
  obtain ⟨B, hB⟩ : ∃ B, w.heap.size = B := ⟨_, rfl⟩
  obtain ⟨C, hC⟩ : ∃ C, B + 1 = C := ⟨_, rfl⟩
  obtain ⟨D, hD⟩ : ∃ D, C + 1 = D := ⟨_, rfl⟩
  obtain ⟨V, hV⟩ : ∃ V, ((w.alloc (.cells #[.int .i64 k, .int .i64 p, .int .i64 q, .int .i64 u, .int .i64 v, .int .i64 c, .int .i64 i, .int .i64 x] 25)).alloc (.cells #[.int .i64 r, .int .i64 s, .int .i64 b, .int .i64 o, .int .i64 d] 27)).alloc (.cells #[.int .i64 p', .int .i64 q', .int .i64 u', .int .i64 v'] 23) = V := ⟨_, rfl⟩
  have HI : Hid (Ft V B k p q u v c i x ∧ Gm V C r s b o d ∧ Pl V D p' q' u' v' ∧ Below B w V) := by
    rw [← hV, ← hD, ← hC, ← hB]
    have a1 := Gm.new (w.alloc (.cells #[.int .i64 k, .int .i64 p, .int .i64 q, .int .i64 u, .int .i64 v, .int .i64 c, .int .i64 i, .int .i64 x] 25)) r s b o d 27
    have a2 := Pl.new ((w.alloc (.cells #[.int .i64 k, .int .i64 p, .int .i64 q, .int .i64 u, .int .i64 v, .int .i64 c, .int .i64 i, .int .i64 x] 25)).alloc (.cells #[.int .i64 r, .int .i64 s, .int .i64 b, .int .i64 o, .int .i64 d] 27)) p' q' u' v' 23
    simp only [World.size_alloc] at a1 a2
    exact ⟨((Ft.new w k p q u v c i x _).alloc _).alloc _, a1.alloc _, a2, (((Below.refl _ w).alloc (Nat.le_refl _) _).alloc (by simp) _).alloc (by simp; omega) _⟩
  rw [hV, hB, hC, hD]
  clear hV hC hD
  go_wp2_with (fail)
  refine (A0.out _).mono ?_
  rintro e W0 ⟨rfl, b0⟩
  replace HI : Hid (Ft W0 B k p q u v c i x ∧ Gm W0 C r s b o d ∧ Pl W0 D p' q' u' v' ∧ Below B w W0) := ⟨HI.out.1.next b0, HI.out.2.1.next b0, HI.out.2.2.1.next b0, HI.out.2.2.2.trans (b0.mono (Nat.le_of_lt HI.out.1.lt))⟩
  have hr := HI.out.1.range
  clear b0
  go_wp2_with (first | refine wpList_load_mid rfl 25 _ rfl B 0 rfl [.int .i64 k, .int .i64 p, .int .i64 q, .int .i64 u, .int .i64 v, .int .i64 c, .int .i64 i, .int .i64 x] _ hr Try.underlying25 rfl infoF ?_)
  refine (A1.out _).mono ?_
  rintro e W1 ⟨rfl, b1⟩
  replace HI : Hid (Ft W1 B k p q u v c i x ∧ Gm W1 C r s b o d ∧ Pl W1 D p' q' u' v' ∧ Below B w W1) := ⟨HI.out.1.next b1, HI.out.2.1.next b1, HI.out.2.2.1.next b1, HI.out.2.2.2.trans (b1.mono (Nat.le_of_lt HI.out.1.lt))⟩
  clear b1 hr
  go_upto_region 4 with (fail)
  obtain ⟨E, hE⟩ : ∃ E, W1.heap.size = E := ⟨_, rfl⟩
  obtain ⟨W2, hW2⟩ : ∃ W2, W1.alloc (.cells #[.int .i64 k, .int .i64 p, .int .i64 q, .int .i64 u, .int .i64 v, .int .i64 c, .int .i64 i, .int .i64 x] 31) = W2 := ⟨_, rfl⟩
  have HS : Hid (Lw1 B C D E k p q u v c i x r s b o d p' q' u' v' w W2) := by
    rw [← hW2, ← hE]
    have lB := Nat.le_of_lt HI.out.1.lt
    exact ⟨HI.out.1.alloc _, HI.out.2.1.alloc _, HI.out.2.2.1.alloc _, Ft.new W1 k p q u v c i x _, HI.out.2.2.2.alloc lB _⟩
  rw [hW2, hE]
  clear hW2 hE HI
  refine region_calm (by kernel_rfl) (by kernel_rfl) (fun W => Below W2.heap.size W2 W) (below_drew1 W2) ?_
  intro U hU f hf hof
  have HN : Hid (∀ u W, Below (f u).heap.size (f u) W → ∃ x, W = f x) := fun u W h => hof W ((hf u).trans (h.mono (hf u).size))
  have HE : Hid (∀ y, Lw1 B C D E k p q u v c i x r s b o d p' q' u' v' w (f y)) := fun y => HS.out.next (hf y)
  have f0 : ∀ y, (f y).cell? ⟨B, 0, none⟩ = some (.int .i64 k) := fun y => (HE.out y).f.c0
  clear hf hof HS
  refine quiet_load rfl 25 _ rfl B 0 rfl [.int .i64 k, .int .i64 p, .int .i64 q, .int .i64 u, .int .i64 v, .int .i64 c, .int .i64 i, .int .i64 x] _ (by rintro _ ⟨y, rfl⟩; exact (HE.out y).f.range) Try.underlying25 rfl infoF ?_
  simp only [Act.put, List.setIfInBounds_toArray, List.set_cons_zero, List.set_cons_succ]
  refine quiet_load rfl 27 _ rfl C 0 rfl [.int .i64 r, .int .i64 s, .int .i64 b, .int .i64 o, .int .i64 d] _ (by rintro _ ⟨y, rfl⟩; exact Bk.range (HE.out y).g) Try.underlying27 rfl infoGm ?_
  simp only [Act.put, List.setIfInBounds_toArray, List.set_cons_zero, List.set_cons_succ]
  go_big_quiet_step (fail)
  go_big_quiet_step ((go_at_call 10; exact calm_next HN.out (C0.out _)))
  refine quiet_load rfl 31 _ rfl E 0 rfl [.int .i64 k, .int .i64 p, .int .i64 q, .int .i64 u, .int .i64 v, .int .i64 c, .int .i64 i, .int .i64 x] _ (by rintro _ ⟨y, rfl⟩; exact (HE.out y).x.range) Try.underlying31 rfl infoG ?_
  simp only [Act.put, List.setIfInBounds_toArray, List.set_cons_zero, List.set_cons_succ]
  refine quiet_load rfl 27 _ rfl C 0 rfl [.int .i64 r, .int .i64 s, .int .i64 b, .int .i64 o, .int .i64 d] _ (by rintro _ ⟨y, rfl⟩; exact Bk.range (HE.out y).g) Try.underlying27 rfl infoGm ?_
  simp only [Act.put, List.setIfInBounds_toArray, List.set_cons_zero, List.set_cons_succ]
  go_big_quiet_step (fail)
  go_big_quiet_step ((go_at_call 11; exact calm_next HN.out (C1.out _)))
  go_big_quiet_step (fail)
  go_big_quiet_step (fail)
  refine quiet_load (by rfl) 25 _ rfl B 0 rfl [.int .i64 k, .int .i64 p, .int .i64 q, .int .i64 u, .int .i64 v, .int .i64 c, .int .i64 i, .int .i64 x] _ (by rintro _ ⟨y, rfl⟩; exact (HE.out y).f.range) Try.underlying25 rfl infoF ?_
  simp only [Act.put, List.setIfInBounds_toArray, List.set_cons_zero, List.set_cons_succ]
  go_big_quiet_step ((go_at_call 12; exact calm_next HN.out (C2.out _)))
  go_big_quiet_step (fail)
  go_big_quiet_step (fail)
  go_big_quiet_step (fail)
  go_big_quiet_step (fail)
  go_big_quiet_step (fail)
  go_big_quiet_step (fail)
  go_big_quiet_step (fail)
  go_big_quiet_step (fail)
  go_big_quiet_step (fail)
  go_big_quiet_step (fail)
  go_big_quiet_step (fail)
  refine quiet_load (by rfl) 25 _ rfl B 0 rfl [.int .i64 k, .int .i64 p, .int .i64 q, .int .i64 u, .int .i64 v, .int .i64 c, .int .i64 i, .int .i64 x] _ (by rintro _ ⟨y, rfl⟩; exact (HE.out y).f.range) Try.underlying25 rfl infoF ?_
  simp only [Act.put, List.setIfInBounds_toArray, List.set_cons_zero, List.set_cons_succ]
  refine quiet_load (by rfl) 23 _ rfl D 0 rfl [.int .i64 p', .int .i64 q', .int .i64 u', .int .i64 v'] _ (by rintro _ ⟨y, rfl⟩; exact (HE.out y).h.range) Try.underlying23 rfl infoP ?_
  simp only [Act.put, List.setIfInBounds_toArray, List.set_cons_zero, List.set_cons_succ]
  go_big_quiet_step ((go_at_call 13; exact calm_next HN.out (C3.out _)))
  refine quiet_load (by rfl) 31 _ rfl E 0 rfl [.int .i64 k, .int .i64 p, .int .i64 q, .int .i64 u, .int .i64 v, .int .i64 c, .int .i64 i, .int .i64 x] _ (by rintro _ ⟨y, rfl⟩; exact (HE.out y).x.range) Try.underlying31 rfl infoG ?_
  simp only [Act.put, List.setIfInBounds_toArray, List.set_cons_zero, List.set_cons_succ]
  refine quiet_load (by rfl) 23 _ rfl D 0 rfl [.int .i64 p', .int .i64 q', .int .i64 u', .int .i64 v'] _ (by rintro _ ⟨y, rfl⟩; exact (HE.out y).h.range) Try.underlying23 rfl infoP ?_
  simp only [Act.put, List.setIfInBounds_toArray, List.set_cons_zero, List.set_cons_succ]
  go_big_quiet_step ((go_at_call 14; exact calm_next HN.out (C4.out _)))
  go_big_quiet_step (fail)
  go_big_quiet_step (fail)
  go_big_quiet_step (fail)
  refine quiet_load (by rfl) 25 _ rfl B 0 rfl [.int .i64 k, .int .i64 p, .int .i64 q, .int .i64 u, .int .i64 v, .int .i64 c, .int .i64 i, .int .i64 x] _ (by rintro _ ⟨y, rfl⟩; exact (HE.out y).f.range) Try.underlying25 rfl infoF ?_
  simp only [Act.put, List.setIfInBounds_toArray, List.set_cons_zero, List.set_cons_succ]
  go_big_quiet_step ((go_at_call 15; exact calm_next HN.out (C5.out _)))
  go_big_quiet_step (fail)
  go_big_quiet_step (fail)
  go_big_quiet_step (fail)
  go_big_quiet_step (fail)
  go_big_quiet_step (fail)
  go_big_quiet_step (fail)
  go_big_quiet_step (fail)
  go_big_quiet_step (fail)
  go_big_quiet_step (fail)
  go_big_quiet_step (fail)
  go_big_quiet_step (fail)
  refine wpQuiet_nil ?_
  rintro _ ⟨y, rfl⟩
  go_wp2
  go_ret
  exact ⟨rfl, by first | exact (HE.out y).n | (rw [hB]; exact (HE.out y).n)⟩
theorem faultRight_core (k p q u v c i x : Int) (r s b o d m : Int) (p' q' u' v' : Int) (hr : I64 r) (hb : I64 b) (ho : I64 o) (hd9 : I64 d) (w : World) :
    Calls Try.prog 3 #[.agg #[.int .i64 k, .int .i64 p, .int .i64 q, .int .i64 u, .int .i64 v, .int .i64 c, .int .i64 i, .int .i64 x], .agg #[.int .i64 r, .int .i64 s, .int .i64 b, .int .i64 o, .int .i64 d], .int .i64 m, .agg #[.int .i64 p', .int .i64 q', .int .i64 u', .int .i64 v']] w fun e w' => e = .returned (.bool true) ∧ Below w.heap.size w w' := by
  rcases (show k < 1 ∨ k = 1 ∨ k = 2 ∨ (3 ≤ k ∧ k ≤ 5) ∨ 5 < k by omega) with h | rfl | rfl | h | h
  · exact faultRight_low k p q u v c i x r s b o d m p' q' u' v' hr hb ho hd9 h w
  · exact faultRight_1 p q u v c i x r s b o d m p' q' u' v' hr hb ho hd9 w
  · exact faultRight_2 p q u v c i x r s b o d m p' q' u' v' hr hb ho hd9 w
  · exact faultRight_mid k p q u v c i x r s b o d m p' q' u' v' hr hb ho hd9 h w
  · exact faultRight_high k p q u v c i x r s b o d m p' q' u' v' hr hb ho hd9 h w
theorem i64_wf {x : Int} (h : (Lit.int .i64 x).wf = true) : I64 x := by
  have := bounds_i64 h
  exact ⟨this.1, by omega⟩
theorem faultRight_walk (a0 a1 : Nat → Int) (a2 : Int) (a3 : Nat → Int) (_w0 : ∀ i, i < 8 → (Lit.int .i64 (a0 i)).wf = true) (w1 : ∀ i, i < 5 → (Lit.int .i64 (a1 i)).wf = true) (_w2 : (Lit.int .i64 a2).wf = true) (_w3 : ∀ i, i < 4 → (Lit.int .i64 (a3 i)).wf = true) (w : World) :
    Calls Try.prog 3 #[.agg (ints .i64 8 a0).toArray, .agg (ints .i64 5 a1).toArray, .int .i64 a2, .agg (ints .i64 4 a3).toArray] w fun e w' => e = .returned (.bool true) ∧ Below w.heap.size w w' :=
  faultRight_core (a0 0) (a0 1) (a0 2) (a0 3) (a0 4) (a0 5) (a0 6) (a0 7) (a1 0) (a1 1) (a1 2) (a1 3) (a1 4) a2 (a3 0) (a3 1) (a3 2) (a3 3) (i64_wf (w1 0 (by omega))) (i64_wf (w1 2 (by omega))) (i64_wf (w1 3 (by omega))) (i64_wf (w1 4 (by omega))) w
end Go.Proofs.Ytlacmkcmfkakjaa
