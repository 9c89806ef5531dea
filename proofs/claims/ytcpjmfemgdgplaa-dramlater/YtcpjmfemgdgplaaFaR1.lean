/-
  The document's Lies.
-/
import Derived.Test.YtcpjmfemgdgplaaFaW6
namespace Go.Proofs.Ytcpjmfemgdgplaa
open Go.RowKit Go.Shelf
attribute [local go_sem] Oper.semAt_some

theorem infoQ : (Try.prog.info? 49).map (·.size) = some 4 := by kernel_rfl
theorem infoG : (Try.prog.info? 51).map (·.size) = some 8 := by kernel_rfl
theorem lz_iff (k p q u v p' q' u' v' : Int) : lz k p q u v p' q' u' v' = true ↔ (1 ≤ k ∧ k ≤ 5 ∧ p' = p ∧ (k = 5 ∨ q' = q) ∧ (k = 4 ∨ k = 5 ∨ u' = u) ∧ (k = 3 ∨ k = 5 ∨ v' = v)) := by
  have hq : nq k q' = nq k q ↔ (k = 5 ∨ q' = q) := by unfold nq; split <;> omega
  have hu : nu k u' = nu k u ↔ (k = 4 ∨ k = 5 ∨ u' = u) := by unfold nu; split <;> omega
  have hv : nv k v' = nv k v ↔ (k = 3 ∨ k = 5 ∨ v' = v) := by unfold nv; split <;> omega
  unfold lz nw ls
  simp only [Bool.and_eq_true, Bool.or_eq_true, decide_eq_true_eq, hq, hu, hv]
  omega
theorem lz_no {k p q u v p' q' u' v' : Int} (h : ¬ (1 ≤ k ∧ k ≤ 5 ∧ p' = p ∧ (k = 5 ∨ q' = q) ∧ (k = 4 ∨ k = 5 ∨ u' = u) ∧ (k = 3 ∨ k = 5 ∨ v' = v))) : lz k p q u v p' q' u' v' = false := by
  rw [Bool.eq_false_iff, ne_eq, lz_iff]; exact h
/-- what the document's Lies works on -/
structure Lr (B C D : Nat) (k p q u v c i x : Int) (p' q' u' v' : Int) (w W : World) : Prop where
  f : Ft W B k p q u v c i x
  g : Pl W C p' q' u' v'
  h : Pl W D p q u v
  n : Below B w W
set_option maxRecDepth 100000 in
set_option maxHeartbeats 4000000 in
theorem refLies_flip (p q u v c i x : Int) (p' q' u' v' : Int) (w : World) :
    Calls Try.prog 71 #[.agg #[.int .i64 1, .int .i64 p, .int .i64 q, .int .i64 u, .int .i64 v, .int .i64 c, .int .i64 i, .int .i64 x], .agg #[.int .i64 p', .int .i64 q', .int .i64 u', .int .i64 v']] w fun e w' => e = .returned (.bool (lz 1 p q u v p' q' u' v')) ∧ Below w.heap.size w w' := by
  obtain ⟨z, Z⟩ : ∃ z, Hid (lz 1 p q u v p' q' u' v' = z) := ⟨_, rfl⟩
  rw [Z.out]
  go_enter Try.func71, Try.ntmps71
  go_upto_region 1 with (fail)
  obtain ⟨B, hB⟩ : ∃ B, w.heap.size = B := ⟨_, rfl⟩
  obtain ⟨C, hC⟩ : ∃ C, B + 1 = C := ⟨_, rfl⟩
  obtain ⟨D, hD⟩ : ∃ D, C + 1 = D := ⟨_, rfl⟩
  obtain ⟨V, hV⟩ : ∃ V, (w.alloc (.cells #[.int .i64 1, .int .i64 p, .int .i64 q, .int .i64 u, .int .i64 v, .int .i64 c, .int .i64 i, .int .i64 x] 51)).alloc (.cells #[.int .i64 p', .int .i64 q', .int .i64 u', .int .i64 v'] 49) = V := ⟨_, rfl⟩
  have HI : Ft V B 1 p q u v c i x ∧ Pl V C p' q' u' v' ∧ Below B w V ∧ V.heap.size = D := by
    rw [← hV, ← hD, ← hC, ← hB]
    have h1 := Pl.new (w.alloc (.cells #[.int .i64 1, .int .i64 p, .int .i64 q, .int .i64 u, .int .i64 v, .int .i64 c, .int .i64 i, .int .i64 x] 51)) p' q' u' v' 49
    simp only [World.size_alloc] at h1
    exact ⟨(Ft.new w 1 p q u v c i x _).alloc _, h1, ((Below.refl _ w).alloc (Nat.le_refl _) _).alloc (by simp) _, by simp only [World.size_alloc]⟩
  obtain ⟨i1, i2, i3, i4⟩ := HI
  have hr := i1.place
  have HS : Hid (Lr B C D 1 p q u v c i x p' q' u' v' w (V.alloc (.cells #[.int .i64 p, .int .i64 q, .int .i64 u, .int .i64 v] 49))) := by
    have h1 := Pl.new V p q u v 49
    rw [i4] at h1
    exact ⟨i1.alloc _, i2.alloc _, h1, i3.alloc (by omega) _⟩
  rw [hV, hB, hC]
  clear hV i1 i2 i3
  go_upto_region 2 with (first | refine wpList_load_mid rfl 49 _ rfl B 1 rfl [.int .i64 p, .int .i64 q, .int .i64 u, .int .i64 v] _ hr Try.underlying49 rfl infoQ ?_)
  obtain ⟨W, hW⟩ : ∃ W, V.alloc (.cells #[.int .i64 p, .int .i64 q, .int .i64 u, .int .i64 v] 49) = W := ⟨_, rfl⟩
  rw [hW] at HS ⊢
  try rw [i4]
  clear hW hr i4 hC hD
  have f0 := HS.out.f.c0
  have g0 := HS.out.g.c0; have g1 := HS.out.g.c1; have g2 := HS.out.g.c2; have g3 := HS.out.g.c3
  have h0 := HS.out.h.c0; have h1 := HS.out.h.c1; have h2 := HS.out.h.c2; have h3 := HS.out.h.c3
  have hgp := HS.out.g.range
  have hhp := HS.out.h.range
  have hE : ∀ w, (binOp .eql 49 (.agg #[.int .i64 p', .int .i64 q', .int .i64 u', .int .i64 v']) (.agg #[.int .i64 p, .int .i64 q, .int .i64 u, .int .i64 v])).run Try.prog w = .ok (.bool z) w := fun w => by
    have e1 : z = decide (p' = p ∧ q' = q ∧ u' = u ∧ v' = v) := by rw [← Z.out, Bool.eq_iff_iff, lz_iff, decide_eq_true_eq]; omega
    rw [e1]; exact eqQ_eql p' q' u' v' p q u v w
  have gd := eqQ_gd
  clear g0 g1 g2 g3 h0 h1 h2 h3
  go_upto_region 3 with (fail)
  go_step
  refine wpList_load_mid rfl 49 _ rfl C 0 rfl [.int .i64 p', .int .i64 q', .int .i64 u', .int .i64 v'] _ hgp Try.underlying49 rfl infoQ ?_
  refine wpList_load_mid rfl 49 _ rfl D 0 rfl [.int .i64 p, .int .i64 q, .int .i64 u, .int .i64 v] _ hhp Try.underlying49 rfl infoQ ?_
  refine wpList_known rfl (.bool z) (exec_eqlA 49 _ _ _ rfl _ _ _ rfl rfl gd hE _) ?_
  simp only [Act.put, List.setIfInBounds_toArray, List.set_cons_zero, List.set_cons_succ]
  go_wp2
  go_ret
  exact ⟨rfl, by first | exact HS.out.n | (rw [hB]; exact HS.out.n)⟩
set_option maxRecDepth 100000 in
set_option maxHeartbeats 4000000 in
theorem refLies_stuck (p q u v c i x : Int) (p' q' u' v' : Int) (w : World) :
    Calls Try.prog 71 #[.agg #[.int .i64 2, .int .i64 p, .int .i64 q, .int .i64 u, .int .i64 v, .int .i64 c, .int .i64 i, .int .i64 x], .agg #[.int .i64 p', .int .i64 q', .int .i64 u', .int .i64 v']] w fun e w' => e = .returned (.bool (lz 2 p q u v p' q' u' v')) ∧ Below w.heap.size w w' := by
  obtain ⟨z, Z⟩ : ∃ z, Hid (lz 2 p q u v p' q' u' v' = z) := ⟨_, rfl⟩
  rw [Z.out]
  go_enter Try.func71, Try.ntmps71
  go_upto_region 1 with (fail)
  obtain ⟨B, hB⟩ : ∃ B, w.heap.size = B := ⟨_, rfl⟩
  obtain ⟨C, hC⟩ : ∃ C, B + 1 = C := ⟨_, rfl⟩
  obtain ⟨D, hD⟩ : ∃ D, C + 1 = D := ⟨_, rfl⟩
  obtain ⟨V, hV⟩ : ∃ V, (w.alloc (.cells #[.int .i64 2, .int .i64 p, .int .i64 q, .int .i64 u, .int .i64 v, .int .i64 c, .int .i64 i, .int .i64 x] 51)).alloc (.cells #[.int .i64 p', .int .i64 q', .int .i64 u', .int .i64 v'] 49) = V := ⟨_, rfl⟩
  have HI : Ft V B 2 p q u v c i x ∧ Pl V C p' q' u' v' ∧ Below B w V ∧ V.heap.size = D := by
    rw [← hV, ← hD, ← hC, ← hB]
    have h1 := Pl.new (w.alloc (.cells #[.int .i64 2, .int .i64 p, .int .i64 q, .int .i64 u, .int .i64 v, .int .i64 c, .int .i64 i, .int .i64 x] 51)) p' q' u' v' 49
    simp only [World.size_alloc] at h1
    exact ⟨(Ft.new w 2 p q u v c i x _).alloc _, h1, ((Below.refl _ w).alloc (Nat.le_refl _) _).alloc (by simp) _, by simp only [World.size_alloc]⟩
  obtain ⟨i1, i2, i3, i4⟩ := HI
  have hr := i1.place
  have HS : Hid (Lr B C D 2 p q u v c i x p' q' u' v' w (V.alloc (.cells #[.int .i64 p, .int .i64 q, .int .i64 u, .int .i64 v] 49))) := by
    have h1 := Pl.new V p q u v 49
    rw [i4] at h1
    exact ⟨i1.alloc _, i2.alloc _, h1, i3.alloc (by omega) _⟩
  rw [hV, hB, hC]
  clear hV i1 i2 i3
  go_upto_region 2 with (first | refine wpList_load_mid rfl 49 _ rfl B 1 rfl [.int .i64 p, .int .i64 q, .int .i64 u, .int .i64 v] _ hr Try.underlying49 rfl infoQ ?_)
  obtain ⟨W, hW⟩ : ∃ W, V.alloc (.cells #[.int .i64 p, .int .i64 q, .int .i64 u, .int .i64 v] 49) = W := ⟨_, rfl⟩
  rw [hW] at HS ⊢
  try rw [i4]
  clear hW hr i4 hC hD
  have f0 := HS.out.f.c0
  have g0 := HS.out.g.c0; have g1 := HS.out.g.c1; have g2 := HS.out.g.c2; have g3 := HS.out.g.c3
  have h0 := HS.out.h.c0; have h1 := HS.out.h.c1; have h2 := HS.out.h.c2; have h3 := HS.out.h.c3
  have hgp := HS.out.g.range
  have hhp := HS.out.h.range
  have hE : ∀ w, (binOp .eql 49 (.agg #[.int .i64 p', .int .i64 q', .int .i64 u', .int .i64 v']) (.agg #[.int .i64 p, .int .i64 q, .int .i64 u, .int .i64 v])).run Try.prog w = .ok (.bool z) w := fun w => by
    have e1 : z = decide (p' = p ∧ q' = q ∧ u' = u ∧ v' = v) := by rw [← Z.out, Bool.eq_iff_iff, lz_iff, decide_eq_true_eq]; omega
    rw [e1]; exact eqQ_eql p' q' u' v' p q u v w
  have gd := eqQ_gd
  clear g0 g1 g2 g3 h0 h1 h2 h3
  go_upto_region 3 with (fail)
  go_step
  refine wpList_load_mid rfl 49 _ rfl C 0 rfl [.int .i64 p', .int .i64 q', .int .i64 u', .int .i64 v'] _ hgp Try.underlying49 rfl infoQ ?_
  refine wpList_load_mid rfl 49 _ rfl D 0 rfl [.int .i64 p, .int .i64 q, .int .i64 u, .int .i64 v] _ hhp Try.underlying49 rfl infoQ ?_
  refine wpList_known rfl (.bool z) (exec_eqlA 49 _ _ _ rfl _ _ _ rfl rfl gd hE _) ?_
  simp only [Act.put, List.setIfInBounds_toArray, List.set_cons_zero, List.set_cons_succ]
  go_wp2
  go_ret
  exact ⟨rfl, by first | exact HS.out.n | (rw [hB]; exact HS.out.n)⟩
set_option maxRecDepth 100000 in
set_option maxHeartbeats 4000000 in
theorem refLies_row (p q u v c i x : Int) (p' q' u' v' : Int) (w : World) :
    Calls Try.prog 71 #[.agg #[.int .i64 3, .int .i64 p, .int .i64 q, .int .i64 u, .int .i64 v, .int .i64 c, .int .i64 i, .int .i64 x], .agg #[.int .i64 p', .int .i64 q', .int .i64 u', .int .i64 v']] w fun e w' => e = .returned (.bool (lz 3 p q u v p' q' u' v')) ∧ Below w.heap.size w w' := by
  obtain ⟨z, Z⟩ : ∃ z, Hid (lz 3 p q u v p' q' u' v' = z) := ⟨_, rfl⟩
  rw [Z.out]
  go_enter Try.func71, Try.ntmps71
  go_upto_region 1 with (fail)
  obtain ⟨B, hB⟩ : ∃ B, w.heap.size = B := ⟨_, rfl⟩
  obtain ⟨C, hC⟩ : ∃ C, B + 1 = C := ⟨_, rfl⟩
  obtain ⟨D, hD⟩ : ∃ D, C + 1 = D := ⟨_, rfl⟩
  obtain ⟨V, hV⟩ : ∃ V, (w.alloc (.cells #[.int .i64 3, .int .i64 p, .int .i64 q, .int .i64 u, .int .i64 v, .int .i64 c, .int .i64 i, .int .i64 x] 51)).alloc (.cells #[.int .i64 p', .int .i64 q', .int .i64 u', .int .i64 v'] 49) = V := ⟨_, rfl⟩
  have HI : Ft V B 3 p q u v c i x ∧ Pl V C p' q' u' v' ∧ Below B w V ∧ V.heap.size = D := by
    rw [← hV, ← hD, ← hC, ← hB]
    have h1 := Pl.new (w.alloc (.cells #[.int .i64 3, .int .i64 p, .int .i64 q, .int .i64 u, .int .i64 v, .int .i64 c, .int .i64 i, .int .i64 x] 51)) p' q' u' v' 49
    simp only [World.size_alloc] at h1
    exact ⟨(Ft.new w 3 p q u v c i x _).alloc _, h1, ((Below.refl _ w).alloc (Nat.le_refl _) _).alloc (by simp) _, by simp only [World.size_alloc]⟩
  obtain ⟨i1, i2, i3, i4⟩ := HI
  have hr := i1.place
  have HS : Hid (Lr B C D 3 p q u v c i x p' q' u' v' w (V.alloc (.cells #[.int .i64 p, .int .i64 q, .int .i64 u, .int .i64 v] 49))) := by
    have h1 := Pl.new V p q u v 49
    rw [i4] at h1
    exact ⟨i1.alloc _, i2.alloc _, h1, i3.alloc (by omega) _⟩
  rw [hV, hB, hC]
  clear hV i1 i2 i3
  go_upto_region 2 with (first | refine wpList_load_mid rfl 49 _ rfl B 1 rfl [.int .i64 p, .int .i64 q, .int .i64 u, .int .i64 v] _ hr Try.underlying49 rfl infoQ ?_)
  obtain ⟨W, hW⟩ : ∃ W, V.alloc (.cells #[.int .i64 p, .int .i64 q, .int .i64 u, .int .i64 v] 49) = W := ⟨_, rfl⟩
  rw [hW] at HS ⊢
  try rw [i4]
  clear hW hr i4 hC hD
  have f0 := HS.out.f.c0
  have g0 := HS.out.g.c0; have g1 := HS.out.g.c1; have g2 := HS.out.g.c2; have g3 := HS.out.g.c3
  have h0 := HS.out.h.c0; have h1 := HS.out.h.c1; have h2 := HS.out.h.c2; have h3 := HS.out.h.c3
  by_cases ep : p' = p
  · have dp : (p' == p) = true := by simpa using ep
    by_cases eq : q' = q
    · have dq : (q' == q) = true := by simpa using eq
      by_cases eu : u' = u
      · have du : (u' == u) = true := by simpa using eu
        obtain rfl : z = true := by rw [← Z.out]; exact (lz_iff _ _ _ _ _ _ _ _ _).2 (by omega)
        go_wp2
        go_ret
        exact ⟨rfl, by first | exact HS.out.n | (rw [hB]; exact HS.out.n)⟩
      · have du : (u' == u) = false := by simpa using eu
        obtain rfl : z = false := by rw [← Z.out]; exact lz_no (by omega)
        go_wp2
        go_ret
        exact ⟨rfl, by first | exact HS.out.n | (rw [hB]; exact HS.out.n)⟩
    · have dq : (q' == q) = false := by simpa using eq
      obtain rfl : z = false := by rw [← Z.out]; exact lz_no (by omega)
      go_wp2
      go_ret
      exact ⟨rfl, by first | exact HS.out.n | (rw [hB]; exact HS.out.n)⟩
  · have dp : (p' == p) = false := by simpa using ep
    obtain rfl : z = false := by rw [← Z.out]; exact lz_no (by omega)
    go_wp2
    go_ret
    exact ⟨rfl, by first | exact HS.out.n | (rw [hB]; exact HS.out.n)⟩
set_option maxRecDepth 100000 in
set_option maxHeartbeats 4000000 in
theorem refLies_col (p q u v c i x : Int) (p' q' u' v' : Int) (w : World) :
    Calls Try.prog 71 #[.agg #[.int .i64 4, .int .i64 p, .int .i64 q, .int .i64 u, .int .i64 v, .int .i64 c, .int .i64 i, .int .i64 x], .agg #[.int .i64 p', .int .i64 q', .int .i64 u', .int .i64 v']] w fun e w' => e = .returned (.bool (lz 4 p q u v p' q' u' v')) ∧ Below w.heap.size w w' := by
  obtain ⟨z, Z⟩ : ∃ z, Hid (lz 4 p q u v p' q' u' v' = z) := ⟨_, rfl⟩
  rw [Z.out]
  go_enter Try.func71, Try.ntmps71
  go_upto_region 1 with (fail)
  obtain ⟨B, hB⟩ : ∃ B, w.heap.size = B := ⟨_, rfl⟩
  obtain ⟨C, hC⟩ : ∃ C, B + 1 = C := ⟨_, rfl⟩
  obtain ⟨D, hD⟩ : ∃ D, C + 1 = D := ⟨_, rfl⟩
  obtain ⟨V, hV⟩ : ∃ V, (w.alloc (.cells #[.int .i64 4, .int .i64 p, .int .i64 q, .int .i64 u, .int .i64 v, .int .i64 c, .int .i64 i, .int .i64 x] 51)).alloc (.cells #[.int .i64 p', .int .i64 q', .int .i64 u', .int .i64 v'] 49) = V := ⟨_, rfl⟩
  have HI : Ft V B 4 p q u v c i x ∧ Pl V C p' q' u' v' ∧ Below B w V ∧ V.heap.size = D := by
    rw [← hV, ← hD, ← hC, ← hB]
    have h1 := Pl.new (w.alloc (.cells #[.int .i64 4, .int .i64 p, .int .i64 q, .int .i64 u, .int .i64 v, .int .i64 c, .int .i64 i, .int .i64 x] 51)) p' q' u' v' 49
    simp only [World.size_alloc] at h1
    exact ⟨(Ft.new w 4 p q u v c i x _).alloc _, h1, ((Below.refl _ w).alloc (Nat.le_refl _) _).alloc (by simp) _, by simp only [World.size_alloc]⟩
  obtain ⟨i1, i2, i3, i4⟩ := HI
  have hr := i1.place
  have HS : Hid (Lr B C D 4 p q u v c i x p' q' u' v' w (V.alloc (.cells #[.int .i64 p, .int .i64 q, .int .i64 u, .int .i64 v] 49))) := by
    have h1 := Pl.new V p q u v 49
    rw [i4] at h1
    exact ⟨i1.alloc _, i2.alloc _, h1, i3.alloc (by omega) _⟩
  rw [hV, hB, hC]
  clear hV i1 i2 i3
  go_upto_region 2 with (first | refine wpList_load_mid rfl 49 _ rfl B 1 rfl [.int .i64 p, .int .i64 q, .int .i64 u, .int .i64 v] _ hr Try.underlying49 rfl infoQ ?_)
  obtain ⟨W, hW⟩ : ∃ W, V.alloc (.cells #[.int .i64 p, .int .i64 q, .int .i64 u, .int .i64 v] 49) = W := ⟨_, rfl⟩
  rw [hW] at HS ⊢
  try rw [i4]
  clear hW hr i4 hC hD
  have f0 := HS.out.f.c0
  have g0 := HS.out.g.c0; have g1 := HS.out.g.c1; have g2 := HS.out.g.c2; have g3 := HS.out.g.c3
  have h0 := HS.out.h.c0; have h1 := HS.out.h.c1; have h2 := HS.out.h.c2; have h3 := HS.out.h.c3
  by_cases ep : p' = p
  · have dp : (p' == p) = true := by simpa using ep
    by_cases eq : q' = q
    · have dq : (q' == q) = true := by simpa using eq
      by_cases ev : v' = v
      · have dv : (v' == v) = true := by simpa using ev
        obtain rfl : z = true := by rw [← Z.out]; exact (lz_iff _ _ _ _ _ _ _ _ _).2 (by omega)
        go_wp2
        go_ret
        exact ⟨rfl, by first | exact HS.out.n | (rw [hB]; exact HS.out.n)⟩
      · have dv : (v' == v) = false := by simpa using ev
        obtain rfl : z = false := by rw [← Z.out]; exact lz_no (by omega)
        go_wp2
        go_ret
        exact ⟨rfl, by first | exact HS.out.n | (rw [hB]; exact HS.out.n)⟩
    · have dq : (q' == q) = false := by simpa using eq
      obtain rfl : z = false := by rw [← Z.out]; exact lz_no (by omega)
      go_wp2
      go_ret
      exact ⟨rfl, by first | exact HS.out.n | (rw [hB]; exact HS.out.n)⟩
  · have dp : (p' == p) = false := by simpa using ep
    obtain rfl : z = false := by rw [← Z.out]; exact lz_no (by omega)
    go_wp2
    go_ret
    exact ⟨rfl, by first | exact HS.out.n | (rw [hB]; exact HS.out.n)⟩
set_option maxRecDepth 100000 in
set_option maxHeartbeats 4000000 in
theorem refLies_chip (p q u v c i x : Int) (p' q' u' v' : Int) (w : World) :
    Calls Try.prog 71 #[.agg #[.int .i64 5, .int .i64 p, .int .i64 q, .int .i64 u, .int .i64 v, .int .i64 c, .int .i64 i, .int .i64 x], .agg #[.int .i64 p', .int .i64 q', .int .i64 u', .int .i64 v']] w fun e w' => e = .returned (.bool (lz 5 p q u v p' q' u' v')) ∧ Below w.heap.size w w' := by
  obtain ⟨z, Z⟩ : ∃ z, Hid (lz 5 p q u v p' q' u' v' = z) := ⟨_, rfl⟩
  rw [Z.out]
  go_enter Try.func71, Try.ntmps71
  go_upto_region 1 with (fail)
  obtain ⟨B, hB⟩ : ∃ B, w.heap.size = B := ⟨_, rfl⟩
  obtain ⟨C, hC⟩ : ∃ C, B + 1 = C := ⟨_, rfl⟩
  obtain ⟨D, hD⟩ : ∃ D, C + 1 = D := ⟨_, rfl⟩
  obtain ⟨V, hV⟩ : ∃ V, (w.alloc (.cells #[.int .i64 5, .int .i64 p, .int .i64 q, .int .i64 u, .int .i64 v, .int .i64 c, .int .i64 i, .int .i64 x] 51)).alloc (.cells #[.int .i64 p', .int .i64 q', .int .i64 u', .int .i64 v'] 49) = V := ⟨_, rfl⟩
  have HI : Ft V B 5 p q u v c i x ∧ Pl V C p' q' u' v' ∧ Below B w V ∧ V.heap.size = D := by
    rw [← hV, ← hD, ← hC, ← hB]
    have h1 := Pl.new (w.alloc (.cells #[.int .i64 5, .int .i64 p, .int .i64 q, .int .i64 u, .int .i64 v, .int .i64 c, .int .i64 i, .int .i64 x] 51)) p' q' u' v' 49
    simp only [World.size_alloc] at h1
    exact ⟨(Ft.new w 5 p q u v c i x _).alloc _, h1, ((Below.refl _ w).alloc (Nat.le_refl _) _).alloc (by simp) _, by simp only [World.size_alloc]⟩
  obtain ⟨i1, i2, i3, i4⟩ := HI
  have hr := i1.place
  have HS : Hid (Lr B C D 5 p q u v c i x p' q' u' v' w (V.alloc (.cells #[.int .i64 p, .int .i64 q, .int .i64 u, .int .i64 v] 49))) := by
    have h1 := Pl.new V p q u v 49
    rw [i4] at h1
    exact ⟨i1.alloc _, i2.alloc _, h1, i3.alloc (by omega) _⟩
  rw [hV, hB, hC]
  clear hV i1 i2 i3
  go_upto_region 2 with (first | refine wpList_load_mid rfl 49 _ rfl B 1 rfl [.int .i64 p, .int .i64 q, .int .i64 u, .int .i64 v] _ hr Try.underlying49 rfl infoQ ?_)
  obtain ⟨W, hW⟩ : ∃ W, V.alloc (.cells #[.int .i64 p, .int .i64 q, .int .i64 u, .int .i64 v] 49) = W := ⟨_, rfl⟩
  rw [hW] at HS ⊢
  try rw [i4]
  clear hW hr i4 hC hD
  have f0 := HS.out.f.c0
  have g0 := HS.out.g.c0; have g1 := HS.out.g.c1; have g2 := HS.out.g.c2; have g3 := HS.out.g.c3
  have h0 := HS.out.h.c0; have h1 := HS.out.h.c1; have h2 := HS.out.h.c2; have h3 := HS.out.h.c3
  by_cases ep : p' = p
  · have dp : (p' == p) = true := by simpa using ep
    obtain rfl : z = true := by rw [← Z.out]; exact (lz_iff _ _ _ _ _ _ _ _ _).2 (by omega)
    go_wp2
    go_ret
    exact ⟨rfl, by first | exact HS.out.n | (rw [hB]; exact HS.out.n)⟩
  · have dp : (p' == p) = false := by simpa using ep
    obtain rfl : z = false := by rw [← Z.out]; exact lz_no (by omega)
    go_wp2
    go_ret
    exact ⟨rfl, by first | exact HS.out.n | (rw [hB]; exact HS.out.n)⟩
set_option maxRecDepth 100000 in
set_option maxHeartbeats 4000000 in
theorem refLies_rest (k p q u v c i x : Int) (b1 : (k == 1) = false) (b2 : (k == 2) = false) (b3 : (k == 3) = false) (b4 : (k == 4) = false) (b5 : (k == 5) = false) (p' q' u' v' : Int) (w : World) :
    Calls Try.prog 71 #[.agg #[.int .i64 k, .int .i64 p, .int .i64 q, .int .i64 u, .int .i64 v, .int .i64 c, .int .i64 i, .int .i64 x], .agg #[.int .i64 p', .int .i64 q', .int .i64 u', .int .i64 v']] w fun e w' => e = .returned (.bool (lz k p q u v p' q' u' v')) ∧ Below w.heap.size w w' := by
  obtain ⟨z, Z⟩ : ∃ z, Hid (lz k p q u v p' q' u' v' = z) := ⟨_, rfl⟩
  rw [Z.out]
  go_enter Try.func71, Try.ntmps71
  go_upto_region 1 with (fail)
  obtain ⟨B, hB⟩ : ∃ B, w.heap.size = B := ⟨_, rfl⟩
  obtain ⟨C, hC⟩ : ∃ C, B + 1 = C := ⟨_, rfl⟩
  obtain ⟨D, hD⟩ : ∃ D, C + 1 = D := ⟨_, rfl⟩
  obtain ⟨V, hV⟩ : ∃ V, (w.alloc (.cells #[.int .i64 k, .int .i64 p, .int .i64 q, .int .i64 u, .int .i64 v, .int .i64 c, .int .i64 i, .int .i64 x] 51)).alloc (.cells #[.int .i64 p', .int .i64 q', .int .i64 u', .int .i64 v'] 49) = V := ⟨_, rfl⟩
  have HI : Ft V B k p q u v c i x ∧ Pl V C p' q' u' v' ∧ Below B w V ∧ V.heap.size = D := by
    rw [← hV, ← hD, ← hC, ← hB]
    have h1 := Pl.new (w.alloc (.cells #[.int .i64 k, .int .i64 p, .int .i64 q, .int .i64 u, .int .i64 v, .int .i64 c, .int .i64 i, .int .i64 x] 51)) p' q' u' v' 49
    simp only [World.size_alloc] at h1
    exact ⟨(Ft.new w k p q u v c i x _).alloc _, h1, ((Below.refl _ w).alloc (Nat.le_refl _) _).alloc (by simp) _, by simp only [World.size_alloc]⟩
  obtain ⟨i1, i2, i3, i4⟩ := HI
  have hr := i1.place
  have HS : Hid (Lr B C D k p q u v c i x p' q' u' v' w (V.alloc (.cells #[.int .i64 p, .int .i64 q, .int .i64 u, .int .i64 v] 49))) := by
    have h1 := Pl.new V p q u v 49
    rw [i4] at h1
    exact ⟨i1.alloc _, i2.alloc _, h1, i3.alloc (by omega) _⟩
  rw [hV, hB, hC]
  clear hV i1 i2 i3
  go_upto_region 2 with (first | refine wpList_load_mid rfl 49 _ rfl B 1 rfl [.int .i64 p, .int .i64 q, .int .i64 u, .int .i64 v] _ hr Try.underlying49 rfl infoQ ?_)
  obtain ⟨W, hW⟩ : ∃ W, V.alloc (.cells #[.int .i64 p, .int .i64 q, .int .i64 u, .int .i64 v] 49) = W := ⟨_, rfl⟩
  rw [hW] at HS ⊢
  try rw [i4]
  clear hW hr i4 hC hD
  have f0 := HS.out.f.c0
  have g0 := HS.out.g.c0; have g1 := HS.out.g.c1; have g2 := HS.out.g.c2; have g3 := HS.out.g.c3
  have h0 := HS.out.h.c0; have h1 := HS.out.h.c1; have h2 := HS.out.h.c2; have h3 := HS.out.h.c3
  obtain rfl : z = false := by
    rw [← Z.out]
    have c1 : k ≠ 1 := by simpa using b1
    have c2 : k ≠ 2 := by simpa using b2
    have c3 : k ≠ 3 := by simpa using b3
    have c4 : k ≠ 4 := by simpa using b4
    have c5 : k ≠ 5 := by simpa using b5
    exact lz_no (by omega)
  go_wp2
  go_ret
  exact ⟨rfl, by first | exact HS.out.n | (rw [hB]; exact HS.out.n)⟩
theorem refLies_any (k p q u v c i x : Int) (p' q' u' v' : Int) (w : World) :
    Calls Try.prog 71 #[.agg #[.int .i64 k, .int .i64 p, .int .i64 q, .int .i64 u, .int .i64 v, .int .i64 c, .int .i64 i, .int .i64 x], .agg #[.int .i64 p', .int .i64 q', .int .i64 u', .int .i64 v']] w fun e w' => e = .returned (.bool (lz k p q u v p' q' u' v')) ∧ Below w.heap.size w w' := by
  by_cases h1 : k = 1
  · subst h1; exact refLies_flip p q u v c i x p' q' u' v' w
  by_cases h2 : k = 2
  · subst h2; exact refLies_stuck p q u v c i x p' q' u' v' w
  by_cases h3 : k = 3
  · subst h3; exact refLies_row p q u v c i x p' q' u' v' w
  by_cases h4 : k = 4
  · subst h4; exact refLies_col p q u v c i x p' q' u' v' w
  by_cases h5 : k = 5
  · subst h5; exact refLies_chip p q u v c i x p' q' u' v' w
  exact refLies_rest k p q u v c i x (by simpa using h1) (by simpa using h2) (by simpa using h3) (by simpa using h4) (by simpa using h5) p' q' u' v' w
end Go.Proofs.Ytcpjmfemgdgplaa
