/-
  The document's Right, by the kinds.
-/
import Derived.Test.YtcpjmfemgdgplaaFaR2
namespace Go.Proofs.Ytcpjmfemgdgplaa
open Go.RowKit Go.Shelf
open Ge (pw rt hd ix)
attribute [local go_sem] Oper.semAt_some

set_option maxRecDepth 100000 in
set_option maxHeartbeats 4000000 in
theorem refRF_1 (p q u v c i x : Int) (r s b o d m n j : Int) (hm : Md m n j) (hr : I64 r) (hb : I64 b) (ho : I64 o) (hd9 : I64 d) (y : Bool) (hy : hd r s b o d p q u v = y) (hY : y = true) (gc0 : 0 ≤ c) (gc1 : c < n) (gi0 : 0 ≤ i) (gi1 : i < 576) (gx0 : 0 ≤ x) (gx1 : x < 256) (w : World) :
    Calls Try.prog 66 #[.agg #[.int .i64 1, .int .i64 p, .int .i64 q, .int .i64 u, .int .i64 v, .int .i64 c, .int .i64 i, .int .i64 x], .agg #[.int .i64 r, .int .i64 s, .int .i64 b, .int .i64 o, .int .i64 d], .int .i64 m] w fun e w' => e = .returned (.bool (rtF n y 1 p q u v c i x)) ∧ Below w.heap.size w w' := by
  subst hY
  obtain ⟨z, Z⟩ : ∃ z, Hid (rtF n true 1 p q u v c i x = z) := ⟨_, rfl⟩
  rw [Z.out]
  have CC : Hid (∀ w : World, Calls Try.prog 52 #[.int .i64 m] w fun e w' => e = .returned (.int .i64 n) ∧ w' = w) := fun w => refChips_any hm w
  have HH : Hid (∀ w : World, Calls Try.prog 43 #[.agg #[.int .i64 r, .int .i64 s, .int .i64 b, .int .i64 o, .int .i64 d], .agg #[.int .i64 p, .int .i64 q, .int .i64 u, .int .i64 v]] w fun e w' => e = .returned (.bool true) ∧ Below w.heap.size w w') := fun w => by rw [← hy]; exact refHolds_any r s b o d p q u v hr hb ho hd9 w
  clear hm hr hb ho hd9 hy
  go_enter Try.func66, Try.ntmps66
  go_upto_region 1 with (fail)
  obtain ⟨B, hB⟩ : ∃ B, w.heap.size = B := ⟨_, rfl⟩
  obtain ⟨C, hC⟩ : ∃ C, B + 1 = C := ⟨_, rfl⟩
  obtain ⟨V, hV⟩ : ∃ V, (w.alloc (.cells #[.int .i64 1, .int .i64 p, .int .i64 q, .int .i64 u, .int .i64 v, .int .i64 c, .int .i64 i, .int .i64 x] 51)).alloc (.cells #[.int .i64 r, .int .i64 s, .int .i64 b, .int .i64 o, .int .i64 d] 30) = V := ⟨_, rfl⟩
  have HS : Hid (Rg B C 1 p q u v c i x r s b o d w V) := by
    rw [← hV, ← hC, ← hB]
    have h1 := Gm.new (w.alloc (.cells #[.int .i64 1, .int .i64 p, .int .i64 q, .int .i64 u, .int .i64 v, .int .i64 c, .int .i64 i, .int .i64 x] 51)) r s b o d 30
    simp only [World.size_alloc] at h1
    exact ⟨(Ft.new w 1 p q u v c i x _).alloc _, h1, ((Below.refl _ w).alloc (Nat.le_refl _) _).alloc (by simp) _, by simp only [World.size_alloc]; omega⟩
  rw [hV, hB, hC]
  clear hV hC
  have f0 := HS.out.f.c0; have f5 := HS.out.f.c5; have f6 := HS.out.f.c6; have f7 := HS.out.f.c7
  go_wp2_with fail
  refine (CC.out _).mono ?_
  rintro e W0 ⟨rfl, rfl⟩
  have e0 : (n == 0) = false := by rw [beq_eq_false_iff_ne]; omega
  have e3 : decide (c < 0) = false := decide_eq_false (by omega)
  have e4 : decide (n ≤ c) = false := decide_eq_false (by omega)
  have e5 : decide (i < 0) = false := decide_eq_false (by omega)
  have e6 : decide (575 < i) = false := decide_eq_false (by omega)
  have e7 : decide (x < 0) = false := decide_eq_false (by omega)
  have e8 : decide (255 < x) = false := decide_eq_false (by omega)
  go_wp2_with (first | refine wpList_load_g (by rfl) 30 _ rfl C 0 rfl [.int .i64 r, .int .i64 s, .int .i64 b, .int .i64 o, .int .i64 d] _ (by exact Bk.range HS.out.g) Try.underlying30 rfl infoRG ?_ | refine wpList_load_g (by rfl) 49 _ rfl B 1 rfl [.int .i64 p, .int .i64 q, .int .i64 u, .int .i64 v] _ (by exact HS.out.f.place) Try.underlying49 rfl infoQ ?_)
  refine (HH.out _).mono ?_
  rintro e W1 ⟨rfl, b1⟩
  replace HS : Hid (Rg B C 1 p q u v c i x r s b o d w W1) := HS.out.next b1
  clear f0 f5 f6 f7 b1
  have f0 := HS.out.f.c0; have f5 := HS.out.f.c5; have f6 := HS.out.f.c6; have f7 := HS.out.f.c7
  have hpl := HS.out.f.place
  obtain ⟨D, hD⟩ : ∃ D, W1.heap.size = D := ⟨_, rfl⟩
  have HP : Hid (Pl (W1.alloc (.cells #[.int .i64 p, .int .i64 q, .int .i64 u, .int .i64 v] 49)) D p q u v) := by rw [← hD]; exact Pl.new W1 p q u v _
  replace HS : Hid (Rg B C 1 p q u v c i x r s b o d w (W1.alloc (.cells #[.int .i64 p, .int .i64 q, .int .i64 u, .int .i64 v] 49))) := HS.out.next ((Below.refl _ W1).alloc (Nat.le_refl _) _)
  go_upto_region 5 with (first | refine wpList_load_mid rfl 49 _ rfl B 1 rfl [.int .i64 p, .int .i64 q, .int .i64 u, .int .i64 v] _ hpl Try.underlying49 rfl infoQ ?_)
  try rw [hD]
  obtain ⟨W2, hW2⟩ : ∃ W2, W1.alloc (.cells #[.int .i64 p, .int .i64 q, .int .i64 u, .int .i64 v] 49) = W2 := ⟨_, rfl⟩
  rw [hW2] at HS HP ⊢
  clear hW2 hpl f0 f5 f6 f7 e0 e3 e4 e5 e6 e7 e8
  have f0 := HS.out.f.c0; have f5 := HS.out.f.c5; have f6 := HS.out.f.c6; have f7 := HS.out.f.c7
  have g0 := HP.out.c0; have g1 := HP.out.c1; have g2 := HP.out.c2; have g3 := HP.out.c3
  by_cases e2 : c = 0
  · have d2 : (c == 0) = true := by simpa using e2
    by_cases e4 : x = 0
    · have d4 : (x == 0) = true := by simpa using e4
      obtain rfl : z = true := by rw [← Z.out]; exact rtF_yes (by omega)
      go_wp2
      go_ret
      exact ⟨rfl, by first | exact HS.out.n | (rw [hB]; exact HS.out.n)⟩
    · have d4 : (x == 0) = false := by simpa using e4
      obtain rfl : z = false := by rw [← Z.out]; exact rtF_no (by omega)
      go_wp2
      go_ret
      exact ⟨rfl, by first | exact HS.out.n | (rw [hB]; exact HS.out.n)⟩
  · have d2 : (c == 0) = false := by simpa using e2
    obtain rfl : z = false := by rw [← Z.out]; exact rtF_no (by omega)
    go_wp2
    go_ret
    exact ⟨rfl, by first | exact HS.out.n | (rw [hB]; exact HS.out.n)⟩
set_option maxRecDepth 100000 in
set_option maxHeartbeats 4000000 in
theorem refRF_2 (p q u v c i x : Int) (r s b o d m n j : Int) (hm : Md m n j) (hr : I64 r) (hb : I64 b) (ho : I64 o) (hd9 : I64 d) (y : Bool) (hy : hd r s b o d p q u v = y) (hY : y = true) (gc0 : 0 ≤ c) (gc1 : c < n) (gi0 : 0 ≤ i) (gi1 : i < 576) (gx0 : 0 ≤ x) (gx1 : x < 256) (w : World) :
    Calls Try.prog 66 #[.agg #[.int .i64 2, .int .i64 p, .int .i64 q, .int .i64 u, .int .i64 v, .int .i64 c, .int .i64 i, .int .i64 x], .agg #[.int .i64 r, .int .i64 s, .int .i64 b, .int .i64 o, .int .i64 d], .int .i64 m] w fun e w' => e = .returned (.bool (rtF n y 2 p q u v c i x)) ∧ Below w.heap.size w w' := by
  subst hY
  obtain ⟨z, Z⟩ : ∃ z, Hid (rtF n true 2 p q u v c i x = z) := ⟨_, rfl⟩
  rw [Z.out]
  have CC : Hid (∀ w : World, Calls Try.prog 52 #[.int .i64 m] w fun e w' => e = .returned (.int .i64 n) ∧ w' = w) := fun w => refChips_any hm w
  have HH : Hid (∀ w : World, Calls Try.prog 43 #[.agg #[.int .i64 r, .int .i64 s, .int .i64 b, .int .i64 o, .int .i64 d], .agg #[.int .i64 p, .int .i64 q, .int .i64 u, .int .i64 v]] w fun e w' => e = .returned (.bool true) ∧ Below w.heap.size w w') := fun w => by rw [← hy]; exact refHolds_any r s b o d p q u v hr hb ho hd9 w
  clear hm hr hb ho hd9 hy
  go_enter Try.func66, Try.ntmps66
  go_upto_region 1 with (fail)
  obtain ⟨B, hB⟩ : ∃ B, w.heap.size = B := ⟨_, rfl⟩
  obtain ⟨C, hC⟩ : ∃ C, B + 1 = C := ⟨_, rfl⟩
  obtain ⟨V, hV⟩ : ∃ V, (w.alloc (.cells #[.int .i64 2, .int .i64 p, .int .i64 q, .int .i64 u, .int .i64 v, .int .i64 c, .int .i64 i, .int .i64 x] 51)).alloc (.cells #[.int .i64 r, .int .i64 s, .int .i64 b, .int .i64 o, .int .i64 d] 30) = V := ⟨_, rfl⟩
  have HS : Hid (Rg B C 2 p q u v c i x r s b o d w V) := by
    rw [← hV, ← hC, ← hB]
    have h1 := Gm.new (w.alloc (.cells #[.int .i64 2, .int .i64 p, .int .i64 q, .int .i64 u, .int .i64 v, .int .i64 c, .int .i64 i, .int .i64 x] 51)) r s b o d 30
    simp only [World.size_alloc] at h1
    exact ⟨(Ft.new w 2 p q u v c i x _).alloc _, h1, ((Below.refl _ w).alloc (Nat.le_refl _) _).alloc (by simp) _, by simp only [World.size_alloc]; omega⟩
  rw [hV, hB, hC]
  clear hV hC
  have f0 := HS.out.f.c0; have f5 := HS.out.f.c5; have f6 := HS.out.f.c6; have f7 := HS.out.f.c7
  go_wp2_with fail
  refine (CC.out _).mono ?_
  rintro e W0 ⟨rfl, rfl⟩
  have e0 : (n == 0) = false := by rw [beq_eq_false_iff_ne]; omega
  have e3 : decide (c < 0) = false := decide_eq_false (by omega)
  have e4 : decide (n ≤ c) = false := decide_eq_false (by omega)
  have e5 : decide (i < 0) = false := decide_eq_false (by omega)
  have e6 : decide (575 < i) = false := decide_eq_false (by omega)
  have e7 : decide (x < 0) = false := decide_eq_false (by omega)
  have e8 : decide (255 < x) = false := decide_eq_false (by omega)
  go_wp2_with (first | refine wpList_load_g (by rfl) 30 _ rfl C 0 rfl [.int .i64 r, .int .i64 s, .int .i64 b, .int .i64 o, .int .i64 d] _ (by exact Bk.range HS.out.g) Try.underlying30 rfl infoRG ?_ | refine wpList_load_g (by rfl) 49 _ rfl B 1 rfl [.int .i64 p, .int .i64 q, .int .i64 u, .int .i64 v] _ (by exact HS.out.f.place) Try.underlying49 rfl infoQ ?_)
  refine (HH.out _).mono ?_
  rintro e W1 ⟨rfl, b1⟩
  replace HS : Hid (Rg B C 2 p q u v c i x r s b o d w W1) := HS.out.next b1
  clear f0 f5 f6 f7 b1
  have f0 := HS.out.f.c0; have f5 := HS.out.f.c5; have f6 := HS.out.f.c6; have f7 := HS.out.f.c7
  have hpl := HS.out.f.place
  obtain ⟨D, hD⟩ : ∃ D, W1.heap.size = D := ⟨_, rfl⟩
  have HP : Hid (Pl (W1.alloc (.cells #[.int .i64 p, .int .i64 q, .int .i64 u, .int .i64 v] 49)) D p q u v) := by rw [← hD]; exact Pl.new W1 p q u v _
  replace HS : Hid (Rg B C 2 p q u v c i x r s b o d w (W1.alloc (.cells #[.int .i64 p, .int .i64 q, .int .i64 u, .int .i64 v] 49))) := HS.out.next ((Below.refl _ W1).alloc (Nat.le_refl _) _)
  go_upto_region 5 with (first | refine wpList_load_mid rfl 49 _ rfl B 1 rfl [.int .i64 p, .int .i64 q, .int .i64 u, .int .i64 v] _ hpl Try.underlying49 rfl infoQ ?_)
  try rw [hD]
  obtain ⟨W2, hW2⟩ : ∃ W2, W1.alloc (.cells #[.int .i64 p, .int .i64 q, .int .i64 u, .int .i64 v] 49) = W2 := ⟨_, rfl⟩
  rw [hW2] at HS HP ⊢
  clear hW2 hpl f0 f5 f6 f7 e0 e3 e4 e5 e6 e7 e8
  have f0 := HS.out.f.c0; have f5 := HS.out.f.c5; have f6 := HS.out.f.c6; have f7 := HS.out.f.c7
  have g0 := HP.out.c0; have g1 := HP.out.c1; have g2 := HP.out.c2; have g3 := HP.out.c3
  by_cases e2 : c = 0
  · have d2 : (c == 0) = true := by simpa using e2
    by_cases e4 : x ≤ 1
    · have d4 : decide (x ≤ 1) = true := decide_eq_true e4
      obtain rfl : z = true := by rw [← Z.out]; exact rtF_yes (by omega)
      go_wp2
      go_ret
      exact ⟨rfl, by first | exact HS.out.n | (rw [hB]; exact HS.out.n)⟩
    · have d4 : decide (x ≤ 1) = false := decide_eq_false e4
      obtain rfl : z = false := by rw [← Z.out]; exact rtF_no (by omega)
      go_wp2
      go_ret
      exact ⟨rfl, by first | exact HS.out.n | (rw [hB]; exact HS.out.n)⟩
  · have d2 : (c == 0) = false := by simpa using e2
    obtain rfl : z = false := by rw [← Z.out]; exact rtF_no (by omega)
    go_wp2
    go_ret
    exact ⟨rfl, by first | exact HS.out.n | (rw [hB]; exact HS.out.n)⟩
set_option maxRecDepth 100000 in
set_option maxHeartbeats 4000000 in
theorem refRF_3 (p q u v c i x : Int) (r s b o d m n j : Int) (hm : Md m n j) (hr : I64 r) (hb : I64 b) (ho : I64 o) (hd9 : I64 d) (y : Bool) (hy : hd r s b o d p q u v = y) (hY : y = true) (gc0 : 0 ≤ c) (gc1 : c < n) (gi0 : 0 ≤ i) (gi1 : i < 576) (gx0 : 0 ≤ x) (gx1 : x < 256) (w : World) :
    Calls Try.prog 66 #[.agg #[.int .i64 3, .int .i64 p, .int .i64 q, .int .i64 u, .int .i64 v, .int .i64 c, .int .i64 i, .int .i64 x], .agg #[.int .i64 r, .int .i64 s, .int .i64 b, .int .i64 o, .int .i64 d], .int .i64 m] w fun e w' => e = .returned (.bool (rtF n y 3 p q u v c i x)) ∧ Below w.heap.size w w' := by
  subst hY
  obtain ⟨z, Z⟩ : ∃ z, Hid (rtF n true 3 p q u v c i x = z) := ⟨_, rfl⟩
  rw [Z.out]
  have CC : Hid (∀ w : World, Calls Try.prog 52 #[.int .i64 m] w fun e w' => e = .returned (.int .i64 n) ∧ w' = w) := fun w => refChips_any hm w
  have HH : Hid (∀ w : World, Calls Try.prog 43 #[.agg #[.int .i64 r, .int .i64 s, .int .i64 b, .int .i64 o, .int .i64 d], .agg #[.int .i64 p, .int .i64 q, .int .i64 u, .int .i64 v]] w fun e w' => e = .returned (.bool true) ∧ Below w.heap.size w w') := fun w => by rw [← hy]; exact refHolds_any r s b o d p q u v hr hb ho hd9 w
  clear hm hr hb ho hd9 hy
  go_enter Try.func66, Try.ntmps66
  go_upto_region 1 with (fail)
  obtain ⟨B, hB⟩ : ∃ B, w.heap.size = B := ⟨_, rfl⟩
  obtain ⟨C, hC⟩ : ∃ C, B + 1 = C := ⟨_, rfl⟩
  obtain ⟨V, hV⟩ : ∃ V, (w.alloc (.cells #[.int .i64 3, .int .i64 p, .int .i64 q, .int .i64 u, .int .i64 v, .int .i64 c, .int .i64 i, .int .i64 x] 51)).alloc (.cells #[.int .i64 r, .int .i64 s, .int .i64 b, .int .i64 o, .int .i64 d] 30) = V := ⟨_, rfl⟩
  have HS : Hid (Rg B C 3 p q u v c i x r s b o d w V) := by
    rw [← hV, ← hC, ← hB]
    have h1 := Gm.new (w.alloc (.cells #[.int .i64 3, .int .i64 p, .int .i64 q, .int .i64 u, .int .i64 v, .int .i64 c, .int .i64 i, .int .i64 x] 51)) r s b o d 30
    simp only [World.size_alloc] at h1
    exact ⟨(Ft.new w 3 p q u v c i x _).alloc _, h1, ((Below.refl _ w).alloc (Nat.le_refl _) _).alloc (by simp) _, by simp only [World.size_alloc]; omega⟩
  rw [hV, hB, hC]
  clear hV hC
  have f0 := HS.out.f.c0; have f5 := HS.out.f.c5; have f6 := HS.out.f.c6; have f7 := HS.out.f.c7
  go_wp2_with fail
  refine (CC.out _).mono ?_
  rintro e W0 ⟨rfl, rfl⟩
  have e0 : (n == 0) = false := by rw [beq_eq_false_iff_ne]; omega
  have e3 : decide (c < 0) = false := decide_eq_false (by omega)
  have e4 : decide (n ≤ c) = false := decide_eq_false (by omega)
  have e5 : decide (i < 0) = false := decide_eq_false (by omega)
  have e6 : decide (575 < i) = false := decide_eq_false (by omega)
  have e7 : decide (x < 0) = false := decide_eq_false (by omega)
  have e8 : decide (255 < x) = false := decide_eq_false (by omega)
  go_wp2_with (first | refine wpList_load_g (by rfl) 30 _ rfl C 0 rfl [.int .i64 r, .int .i64 s, .int .i64 b, .int .i64 o, .int .i64 d] _ (by exact Bk.range HS.out.g) Try.underlying30 rfl infoRG ?_ | refine wpList_load_g (by rfl) 49 _ rfl B 1 rfl [.int .i64 p, .int .i64 q, .int .i64 u, .int .i64 v] _ (by exact HS.out.f.place) Try.underlying49 rfl infoQ ?_)
  refine (HH.out _).mono ?_
  rintro e W1 ⟨rfl, b1⟩
  replace HS : Hid (Rg B C 3 p q u v c i x r s b o d w W1) := HS.out.next b1
  clear f0 f5 f6 f7 b1
  have f0 := HS.out.f.c0; have f5 := HS.out.f.c5; have f6 := HS.out.f.c6; have f7 := HS.out.f.c7
  have hpl := HS.out.f.place
  obtain ⟨D, hD⟩ : ∃ D, W1.heap.size = D := ⟨_, rfl⟩
  have HP : Hid (Pl (W1.alloc (.cells #[.int .i64 p, .int .i64 q, .int .i64 u, .int .i64 v] 49)) D p q u v) := by rw [← hD]; exact Pl.new W1 p q u v _
  replace HS : Hid (Rg B C 3 p q u v c i x r s b o d w (W1.alloc (.cells #[.int .i64 p, .int .i64 q, .int .i64 u, .int .i64 v] 49))) := HS.out.next ((Below.refl _ W1).alloc (Nat.le_refl _) _)
  go_upto_region 5 with (first | refine wpList_load_mid rfl 49 _ rfl B 1 rfl [.int .i64 p, .int .i64 q, .int .i64 u, .int .i64 v] _ hpl Try.underlying49 rfl infoQ ?_)
  try rw [hD]
  obtain ⟨W2, hW2⟩ : ∃ W2, W1.alloc (.cells #[.int .i64 p, .int .i64 q, .int .i64 u, .int .i64 v] 49) = W2 := ⟨_, rfl⟩
  rw [hW2] at HS HP ⊢
  clear hW2 hpl f0 f5 f6 f7 e0 e3 e4 e5 e6 e7 e8
  have f0 := HS.out.f.c0; have f5 := HS.out.f.c5; have f6 := HS.out.f.c6; have f7 := HS.out.f.c7
  have g0 := HP.out.c0; have g1 := HP.out.c1; have g2 := HP.out.c2; have g3 := HP.out.c3
  by_cases e2 : i = 0
  · have d2 : (i != 0) = false := by simpa using e2
    by_cases e4 : v = 0
    · have d4 : (v == 0) = true := by simpa using e4
      obtain rfl : z = true := by rw [← Z.out]; exact rtF_yes (by omega)
      go_wp2
      go_ret
      exact ⟨rfl, by first | exact HS.out.n | (rw [hB]; exact HS.out.n)⟩
    · have d4 : (v == 0) = false := by simpa using e4
      obtain rfl : z = false := by rw [← Z.out]; exact rtF_no (by omega)
      go_wp2
      go_ret
      exact ⟨rfl, by first | exact HS.out.n | (rw [hB]; exact HS.out.n)⟩
  · have d2 : (i != 0) = true := by simpa using e2
    obtain rfl : z = false := by rw [← Z.out]; exact rtF_no (by omega)
    go_wp2
    go_ret
    exact ⟨rfl, by first | exact HS.out.n | (rw [hB]; exact HS.out.n)⟩
set_option maxRecDepth 100000 in
set_option maxHeartbeats 4000000 in
theorem refRF_4 (p q u v c i x : Int) (r s b o d m n j : Int) (hm : Md m n j) (hr : I64 r) (hb : I64 b) (ho : I64 o) (hd9 : I64 d) (y : Bool) (hy : hd r s b o d p q u v = y) (hY : y = true) (gc0 : 0 ≤ c) (gc1 : c < n) (gi0 : 0 ≤ i) (gi1 : i < 576) (gx0 : 0 ≤ x) (gx1 : x < 256) (w : World) :
    Calls Try.prog 66 #[.agg #[.int .i64 4, .int .i64 p, .int .i64 q, .int .i64 u, .int .i64 v, .int .i64 c, .int .i64 i, .int .i64 x], .agg #[.int .i64 r, .int .i64 s, .int .i64 b, .int .i64 o, .int .i64 d], .int .i64 m] w fun e w' => e = .returned (.bool (rtF n y 4 p q u v c i x)) ∧ Below w.heap.size w w' := by
  subst hY
  obtain ⟨z, Z⟩ : ∃ z, Hid (rtF n true 4 p q u v c i x = z) := ⟨_, rfl⟩
  rw [Z.out]
  have CC : Hid (∀ w : World, Calls Try.prog 52 #[.int .i64 m] w fun e w' => e = .returned (.int .i64 n) ∧ w' = w) := fun w => refChips_any hm w
  have HH : Hid (∀ w : World, Calls Try.prog 43 #[.agg #[.int .i64 r, .int .i64 s, .int .i64 b, .int .i64 o, .int .i64 d], .agg #[.int .i64 p, .int .i64 q, .int .i64 u, .int .i64 v]] w fun e w' => e = .returned (.bool true) ∧ Below w.heap.size w w') := fun w => by rw [← hy]; exact refHolds_any r s b o d p q u v hr hb ho hd9 w
  clear hm hr hb ho hd9 hy
  go_enter Try.func66, Try.ntmps66
  go_upto_region 1 with (fail)
  obtain ⟨B, hB⟩ : ∃ B, w.heap.size = B := ⟨_, rfl⟩
  obtain ⟨C, hC⟩ : ∃ C, B + 1 = C := ⟨_, rfl⟩
  obtain ⟨V, hV⟩ : ∃ V, (w.alloc (.cells #[.int .i64 4, .int .i64 p, .int .i64 q, .int .i64 u, .int .i64 v, .int .i64 c, .int .i64 i, .int .i64 x] 51)).alloc (.cells #[.int .i64 r, .int .i64 s, .int .i64 b, .int .i64 o, .int .i64 d] 30) = V := ⟨_, rfl⟩
  have HS : Hid (Rg B C 4 p q u v c i x r s b o d w V) := by
    rw [← hV, ← hC, ← hB]
    have h1 := Gm.new (w.alloc (.cells #[.int .i64 4, .int .i64 p, .int .i64 q, .int .i64 u, .int .i64 v, .int .i64 c, .int .i64 i, .int .i64 x] 51)) r s b o d 30
    simp only [World.size_alloc] at h1
    exact ⟨(Ft.new w 4 p q u v c i x _).alloc _, h1, ((Below.refl _ w).alloc (Nat.le_refl _) _).alloc (by simp) _, by simp only [World.size_alloc]; omega⟩
  rw [hV, hB, hC]
  clear hV hC
  have f0 := HS.out.f.c0; have f5 := HS.out.f.c5; have f6 := HS.out.f.c6; have f7 := HS.out.f.c7
  go_wp2_with fail
  refine (CC.out _).mono ?_
  rintro e W0 ⟨rfl, rfl⟩
  have e0 : (n == 0) = false := by rw [beq_eq_false_iff_ne]; omega
  have e3 : decide (c < 0) = false := decide_eq_false (by omega)
  have e4 : decide (n ≤ c) = false := decide_eq_false (by omega)
  have e5 : decide (i < 0) = false := decide_eq_false (by omega)
  have e6 : decide (575 < i) = false := decide_eq_false (by omega)
  have e7 : decide (x < 0) = false := decide_eq_false (by omega)
  have e8 : decide (255 < x) = false := decide_eq_false (by omega)
  go_wp2_with (first | refine wpList_load_g (by rfl) 30 _ rfl C 0 rfl [.int .i64 r, .int .i64 s, .int .i64 b, .int .i64 o, .int .i64 d] _ (by exact Bk.range HS.out.g) Try.underlying30 rfl infoRG ?_ | refine wpList_load_g (by rfl) 49 _ rfl B 1 rfl [.int .i64 p, .int .i64 q, .int .i64 u, .int .i64 v] _ (by exact HS.out.f.place) Try.underlying49 rfl infoQ ?_)
  refine (HH.out _).mono ?_
  rintro e W1 ⟨rfl, b1⟩
  replace HS : Hid (Rg B C 4 p q u v c i x r s b o d w W1) := HS.out.next b1
  clear f0 f5 f6 f7 b1
  have f0 := HS.out.f.c0; have f5 := HS.out.f.c5; have f6 := HS.out.f.c6; have f7 := HS.out.f.c7
  have hpl := HS.out.f.place
  obtain ⟨D, hD⟩ : ∃ D, W1.heap.size = D := ⟨_, rfl⟩
  have HP : Hid (Pl (W1.alloc (.cells #[.int .i64 p, .int .i64 q, .int .i64 u, .int .i64 v] 49)) D p q u v) := by rw [← hD]; exact Pl.new W1 p q u v _
  replace HS : Hid (Rg B C 4 p q u v c i x r s b o d w (W1.alloc (.cells #[.int .i64 p, .int .i64 q, .int .i64 u, .int .i64 v] 49))) := HS.out.next ((Below.refl _ W1).alloc (Nat.le_refl _) _)
  go_upto_region 5 with (first | refine wpList_load_mid rfl 49 _ rfl B 1 rfl [.int .i64 p, .int .i64 q, .int .i64 u, .int .i64 v] _ hpl Try.underlying49 rfl infoQ ?_)
  try rw [hD]
  obtain ⟨W2, hW2⟩ : ∃ W2, W1.alloc (.cells #[.int .i64 p, .int .i64 q, .int .i64 u, .int .i64 v] 49) = W2 := ⟨_, rfl⟩
  rw [hW2] at HS HP ⊢
  clear hW2 hpl f0 f5 f6 f7 e0 e3 e4 e5 e6 e7 e8
  have f0 := HS.out.f.c0; have f5 := HS.out.f.c5; have f6 := HS.out.f.c6; have f7 := HS.out.f.c7
  have g0 := HP.out.c0; have g1 := HP.out.c1; have g2 := HP.out.c2; have g3 := HP.out.c3
  by_cases e2 : i = 0
  · have d2 : (i != 0) = false := by simpa using e2
    by_cases e4 : u = 0
    · have d4 : (u == 0) = true := by simpa using e4
      obtain rfl : z = true := by rw [← Z.out]; exact rtF_yes (by omega)
      go_wp2
      go_ret
      exact ⟨rfl, by first | exact HS.out.n | (rw [hB]; exact HS.out.n)⟩
    · have d4 : (u == 0) = false := by simpa using e4
      obtain rfl : z = false := by rw [← Z.out]; exact rtF_no (by omega)
      go_wp2
      go_ret
      exact ⟨rfl, by first | exact HS.out.n | (rw [hB]; exact HS.out.n)⟩
  · have d2 : (i != 0) = true := by simpa using e2
    obtain rfl : z = false := by rw [← Z.out]; exact rtF_no (by omega)
    go_wp2
    go_ret
    exact ⟨rfl, by first | exact HS.out.n | (rw [hB]; exact HS.out.n)⟩
set_option maxRecDepth 100000 in
set_option maxHeartbeats 4000000 in
theorem refRF_5 (p q u v c i x : Int) (r s b o d m n j : Int) (hm : Md m n j) (hr : I64 r) (hb : I64 b) (ho : I64 o) (hd9 : I64 d) (y : Bool) (hy : hd r s b o d p q u v = y) (hY : y = true) (gc0 : 0 ≤ c) (gc1 : c < n) (gi0 : 0 ≤ i) (gi1 : i < 576) (gx0 : 0 ≤ x) (gx1 : x < 256) (w : World) :
    Calls Try.prog 66 #[.agg #[.int .i64 5, .int .i64 p, .int .i64 q, .int .i64 u, .int .i64 v, .int .i64 c, .int .i64 i, .int .i64 x], .agg #[.int .i64 r, .int .i64 s, .int .i64 b, .int .i64 o, .int .i64 d], .int .i64 m] w fun e w' => e = .returned (.bool (rtF n y 5 p q u v c i x)) ∧ Below w.heap.size w w' := by
  subst hY
  obtain ⟨z, Z⟩ : ∃ z, Hid (rtF n true 5 p q u v c i x = z) := ⟨_, rfl⟩
  rw [Z.out]
  have CC : Hid (∀ w : World, Calls Try.prog 52 #[.int .i64 m] w fun e w' => e = .returned (.int .i64 n) ∧ w' = w) := fun w => refChips_any hm w
  have HH : Hid (∀ w : World, Calls Try.prog 43 #[.agg #[.int .i64 r, .int .i64 s, .int .i64 b, .int .i64 o, .int .i64 d], .agg #[.int .i64 p, .int .i64 q, .int .i64 u, .int .i64 v]] w fun e w' => e = .returned (.bool true) ∧ Below w.heap.size w w') := fun w => by rw [← hy]; exact refHolds_any r s b o d p q u v hr hb ho hd9 w
  clear hm hr hb ho hd9 hy
  go_enter Try.func66, Try.ntmps66
  go_upto_region 1 with (fail)
  obtain ⟨B, hB⟩ : ∃ B, w.heap.size = B := ⟨_, rfl⟩
  obtain ⟨C, hC⟩ : ∃ C, B + 1 = C := ⟨_, rfl⟩
  obtain ⟨V, hV⟩ : ∃ V, (w.alloc (.cells #[.int .i64 5, .int .i64 p, .int .i64 q, .int .i64 u, .int .i64 v, .int .i64 c, .int .i64 i, .int .i64 x] 51)).alloc (.cells #[.int .i64 r, .int .i64 s, .int .i64 b, .int .i64 o, .int .i64 d] 30) = V := ⟨_, rfl⟩
  have HS : Hid (Rg B C 5 p q u v c i x r s b o d w V) := by
    rw [← hV, ← hC, ← hB]
    have h1 := Gm.new (w.alloc (.cells #[.int .i64 5, .int .i64 p, .int .i64 q, .int .i64 u, .int .i64 v, .int .i64 c, .int .i64 i, .int .i64 x] 51)) r s b o d 30
    simp only [World.size_alloc] at h1
    exact ⟨(Ft.new w 5 p q u v c i x _).alloc _, h1, ((Below.refl _ w).alloc (Nat.le_refl _) _).alloc (by simp) _, by simp only [World.size_alloc]; omega⟩
  rw [hV, hB, hC]
  clear hV hC
  have f0 := HS.out.f.c0; have f5 := HS.out.f.c5; have f6 := HS.out.f.c6; have f7 := HS.out.f.c7
  go_wp2_with fail
  refine (CC.out _).mono ?_
  rintro e W0 ⟨rfl, rfl⟩
  have e0 : (n == 0) = false := by rw [beq_eq_false_iff_ne]; omega
  have e3 : decide (c < 0) = false := decide_eq_false (by omega)
  have e4 : decide (n ≤ c) = false := decide_eq_false (by omega)
  have e5 : decide (i < 0) = false := decide_eq_false (by omega)
  have e6 : decide (575 < i) = false := decide_eq_false (by omega)
  have e7 : decide (x < 0) = false := decide_eq_false (by omega)
  have e8 : decide (255 < x) = false := decide_eq_false (by omega)
  go_wp2_with (first | refine wpList_load_g (by rfl) 30 _ rfl C 0 rfl [.int .i64 r, .int .i64 s, .int .i64 b, .int .i64 o, .int .i64 d] _ (by exact Bk.range HS.out.g) Try.underlying30 rfl infoRG ?_ | refine wpList_load_g (by rfl) 49 _ rfl B 1 rfl [.int .i64 p, .int .i64 q, .int .i64 u, .int .i64 v] _ (by exact HS.out.f.place) Try.underlying49 rfl infoQ ?_)
  refine (HH.out _).mono ?_
  rintro e W1 ⟨rfl, b1⟩
  replace HS : Hid (Rg B C 5 p q u v c i x r s b o d w W1) := HS.out.next b1
  clear f0 f5 f6 f7 b1
  have f0 := HS.out.f.c0; have f5 := HS.out.f.c5; have f6 := HS.out.f.c6; have f7 := HS.out.f.c7
  have hpl := HS.out.f.place
  obtain ⟨D, hD⟩ : ∃ D, W1.heap.size = D := ⟨_, rfl⟩
  have HP : Hid (Pl (W1.alloc (.cells #[.int .i64 p, .int .i64 q, .int .i64 u, .int .i64 v] 49)) D p q u v) := by rw [← hD]; exact Pl.new W1 p q u v _
  replace HS : Hid (Rg B C 5 p q u v c i x r s b o d w (W1.alloc (.cells #[.int .i64 p, .int .i64 q, .int .i64 u, .int .i64 v] 49))) := HS.out.next ((Below.refl _ W1).alloc (Nat.le_refl _) _)
  go_upto_region 5 with (first | refine wpList_load_mid rfl 49 _ rfl B 1 rfl [.int .i64 p, .int .i64 q, .int .i64 u, .int .i64 v] _ hpl Try.underlying49 rfl infoQ ?_)
  try rw [hD]
  obtain ⟨W2, hW2⟩ : ∃ W2, W1.alloc (.cells #[.int .i64 p, .int .i64 q, .int .i64 u, .int .i64 v] 49) = W2 := ⟨_, rfl⟩
  rw [hW2] at HS HP ⊢
  clear hW2 hpl f0 f5 f6 f7 e0 e3 e4 e5 e6 e7 e8
  have f0 := HS.out.f.c0; have f5 := HS.out.f.c5; have f6 := HS.out.f.c6; have f7 := HS.out.f.c7
  have g0 := HP.out.c0; have g1 := HP.out.c1; have g2 := HP.out.c2; have g3 := HP.out.c3
  by_cases e2 : i = 0
  · have d2 : (i != 0) = false := by simpa using e2
    by_cases e4 : q = 0
    · have d4 : (q == 0) = true := by simpa using e4
      by_cases e6 : u = 0
      · have d6 : (u == 0) = true := by simpa using e6
        by_cases e8 : v = 0
        · have d8 : (v == 0) = true := by simpa using e8
          obtain rfl : z = true := by rw [← Z.out]; exact rtF_yes (by omega)
          go_wp2
          go_ret
          exact ⟨rfl, by first | exact HS.out.n | (rw [hB]; exact HS.out.n)⟩
        · have d8 : (v == 0) = false := by simpa using e8
          obtain rfl : z = false := by rw [← Z.out]; exact rtF_no (by omega)
          go_wp2
          go_ret
          exact ⟨rfl, by first | exact HS.out.n | (rw [hB]; exact HS.out.n)⟩
      · have d6 : (u == 0) = false := by simpa using e6
        obtain rfl : z = false := by rw [← Z.out]; exact rtF_no (by omega)
        go_wp2
        go_ret
        exact ⟨rfl, by first | exact HS.out.n | (rw [hB]; exact HS.out.n)⟩
    · have d4 : (q == 0) = false := by simpa using e4
      obtain rfl : z = false := by rw [← Z.out]; exact rtF_no (by omega)
      go_wp2
      go_ret
      exact ⟨rfl, by first | exact HS.out.n | (rw [hB]; exact HS.out.n)⟩
  · have d2 : (i != 0) = true := by simpa using e2
    obtain rfl : z = false := by rw [← Z.out]; exact rtF_no (by omega)
    go_wp2
    go_ret
    exact ⟨rfl, by first | exact HS.out.n | (rw [hB]; exact HS.out.n)⟩
set_option maxRecDepth 100000 in
set_option maxHeartbeats 4000000 in
theorem refRF_6 (p q u v c i x : Int) (r s b o d m n j : Int) (hm : Md m n j) (hr : I64 r) (hb : I64 b) (ho : I64 o) (hd9 : I64 d) (y : Bool) (hy : hd r s b o d p q u v = y) (hY : y = true) (gc0 : 0 ≤ c) (gc1 : c < n) (gi0 : 0 ≤ i) (gi1 : i < 576) (gx0 : 0 ≤ x) (gx1 : x < 256) (w : World) :
    Calls Try.prog 66 #[.agg #[.int .i64 6, .int .i64 p, .int .i64 q, .int .i64 u, .int .i64 v, .int .i64 c, .int .i64 i, .int .i64 x], .agg #[.int .i64 r, .int .i64 s, .int .i64 b, .int .i64 o, .int .i64 d], .int .i64 m] w fun e w' => e = .returned (.bool (rtF n y 6 p q u v c i x)) ∧ Below w.heap.size w w' := by
  subst hY
  obtain ⟨z, Z⟩ : ∃ z, Hid (rtF n true 6 p q u v c i x = z) := ⟨_, rfl⟩
  rw [Z.out]
  have CC : Hid (∀ w : World, Calls Try.prog 52 #[.int .i64 m] w fun e w' => e = .returned (.int .i64 n) ∧ w' = w) := fun w => refChips_any hm w
  have HH : Hid (∀ w : World, Calls Try.prog 43 #[.agg #[.int .i64 r, .int .i64 s, .int .i64 b, .int .i64 o, .int .i64 d], .agg #[.int .i64 p, .int .i64 q, .int .i64 u, .int .i64 v]] w fun e w' => e = .returned (.bool true) ∧ Below w.heap.size w w') := fun w => by rw [← hy]; exact refHolds_any r s b o d p q u v hr hb ho hd9 w
  clear hm hr hb ho hd9 hy
  go_enter Try.func66, Try.ntmps66
  go_upto_region 1 with (fail)
  obtain ⟨B, hB⟩ : ∃ B, w.heap.size = B := ⟨_, rfl⟩
  obtain ⟨C, hC⟩ : ∃ C, B + 1 = C := ⟨_, rfl⟩
  obtain ⟨V, hV⟩ : ∃ V, (w.alloc (.cells #[.int .i64 6, .int .i64 p, .int .i64 q, .int .i64 u, .int .i64 v, .int .i64 c, .int .i64 i, .int .i64 x] 51)).alloc (.cells #[.int .i64 r, .int .i64 s, .int .i64 b, .int .i64 o, .int .i64 d] 30) = V := ⟨_, rfl⟩
  have HS : Hid (Rg B C 6 p q u v c i x r s b o d w V) := by
    rw [← hV, ← hC, ← hB]
    have h1 := Gm.new (w.alloc (.cells #[.int .i64 6, .int .i64 p, .int .i64 q, .int .i64 u, .int .i64 v, .int .i64 c, .int .i64 i, .int .i64 x] 51)) r s b o d 30
    simp only [World.size_alloc] at h1
    exact ⟨(Ft.new w 6 p q u v c i x _).alloc _, h1, ((Below.refl _ w).alloc (Nat.le_refl _) _).alloc (by simp) _, by simp only [World.size_alloc]; omega⟩
  rw [hV, hB, hC]
  clear hV hC
  have f0 := HS.out.f.c0; have f5 := HS.out.f.c5; have f6 := HS.out.f.c6; have f7 := HS.out.f.c7
  go_wp2_with fail
  refine (CC.out _).mono ?_
  rintro e W0 ⟨rfl, rfl⟩
  have e0 : (n == 0) = false := by rw [beq_eq_false_iff_ne]; omega
  have e3 : decide (c < 0) = false := decide_eq_false (by omega)
  have e4 : decide (n ≤ c) = false := decide_eq_false (by omega)
  have e5 : decide (i < 0) = false := decide_eq_false (by omega)
  have e6 : decide (575 < i) = false := decide_eq_false (by omega)
  have e7 : decide (x < 0) = false := decide_eq_false (by omega)
  have e8 : decide (255 < x) = false := decide_eq_false (by omega)
  go_wp2_with (first | refine wpList_load_g (by rfl) 30 _ rfl C 0 rfl [.int .i64 r, .int .i64 s, .int .i64 b, .int .i64 o, .int .i64 d] _ (by exact Bk.range HS.out.g) Try.underlying30 rfl infoRG ?_ | refine wpList_load_g (by rfl) 49 _ rfl B 1 rfl [.int .i64 p, .int .i64 q, .int .i64 u, .int .i64 v] _ (by exact HS.out.f.place) Try.underlying49 rfl infoQ ?_)
  refine (HH.out _).mono ?_
  rintro e W1 ⟨rfl, b1⟩
  replace HS : Hid (Rg B C 6 p q u v c i x r s b o d w W1) := HS.out.next b1
  clear f0 f5 f6 f7 b1
  have f0 := HS.out.f.c0; have f5 := HS.out.f.c5; have f6 := HS.out.f.c6; have f7 := HS.out.f.c7
  have hpl := HS.out.f.place
  obtain ⟨D, hD⟩ : ∃ D, W1.heap.size = D := ⟨_, rfl⟩
  have HP : Hid (Pl (W1.alloc (.cells #[.int .i64 p, .int .i64 q, .int .i64 u, .int .i64 v] 49)) D p q u v) := by rw [← hD]; exact Pl.new W1 p q u v _
  replace HS : Hid (Rg B C 6 p q u v c i x r s b o d w (W1.alloc (.cells #[.int .i64 p, .int .i64 q, .int .i64 u, .int .i64 v] 49))) := HS.out.next ((Below.refl _ W1).alloc (Nat.le_refl _) _)
  go_upto_region 5 with (first | refine wpList_load_mid rfl 49 _ rfl B 1 rfl [.int .i64 p, .int .i64 q, .int .i64 u, .int .i64 v] _ hpl Try.underlying49 rfl infoQ ?_)
  try rw [hD]
  obtain ⟨W2, hW2⟩ : ∃ W2, W1.alloc (.cells #[.int .i64 p, .int .i64 q, .int .i64 u, .int .i64 v] 49) = W2 := ⟨_, rfl⟩
  rw [hW2] at HS HP ⊢
  clear hW2 hpl f0 f5 f6 f7 e0 e3 e4 e5 e6 e7 e8
  have f0 := HS.out.f.c0; have f5 := HS.out.f.c5; have f6 := HS.out.f.c6; have f7 := HS.out.f.c7
  have g0 := HP.out.c0; have g1 := HP.out.c1; have g2 := HP.out.c2; have g3 := HP.out.c3
  by_cases e2 : i = 0
  · have d2 : (i != 0) = false := by simpa using e2
    by_cases e4 : c = 0
    · have d4 : (c != 0) = false := by simpa using e4
      by_cases e6 : x = 0
      · have d6 : (x != 0) = false := by simpa using e6
        obtain rfl : z = true := by rw [← Z.out]; exact rtF_yes (by omega)
        go_wp2
        go_ret
        exact ⟨rfl, by first | exact HS.out.n | (rw [hB]; exact HS.out.n)⟩
      · have d6 : (x != 0) = true := by simpa using e6
        obtain rfl : z = false := by rw [← Z.out]; exact rtF_no (by omega)
        go_wp2
        go_ret
        exact ⟨rfl, by first | exact HS.out.n | (rw [hB]; exact HS.out.n)⟩
    · have d4 : (c != 0) = true := by simpa using e4
      obtain rfl : z = false := by rw [← Z.out]; exact rtF_no (by omega)
      go_wp2
      go_ret
      exact ⟨rfl, by first | exact HS.out.n | (rw [hB]; exact HS.out.n)⟩
  · have d2 : (i != 0) = true := by simpa using e2
    obtain rfl : z = false := by rw [← Z.out]; exact rtF_no (by omega)
    go_wp2
    go_ret
    exact ⟨rfl, by first | exact HS.out.n | (rw [hB]; exact HS.out.n)⟩
set_option maxRecDepth 100000 in
set_option maxHeartbeats 4000000 in
theorem refRF_7 (p q u v c i x : Int) (r s b o d m n j : Int) (hm : Md m n j) (hr : I64 r) (hb : I64 b) (ho : I64 o) (hd9 : I64 d) (y : Bool) (hy : hd r s b o d p q u v = y) (hY : y = true) (gc0 : 0 ≤ c) (gc1 : c < n) (gi0 : 0 ≤ i) (gi1 : i < 576) (gx0 : 0 ≤ x) (gx1 : x < 256) (w : World) :
    Calls Try.prog 66 #[.agg #[.int .i64 7, .int .i64 p, .int .i64 q, .int .i64 u, .int .i64 v, .int .i64 c, .int .i64 i, .int .i64 x], .agg #[.int .i64 r, .int .i64 s, .int .i64 b, .int .i64 o, .int .i64 d], .int .i64 m] w fun e w' => e = .returned (.bool (rtF n y 7 p q u v c i x)) ∧ Below w.heap.size w w' := by
  subst hY
  obtain ⟨z, Z⟩ : ∃ z, Hid (rtF n true 7 p q u v c i x = z) := ⟨_, rfl⟩
  rw [Z.out]
  have CC : Hid (∀ w : World, Calls Try.prog 52 #[.int .i64 m] w fun e w' => e = .returned (.int .i64 n) ∧ w' = w) := fun w => refChips_any hm w
  have HH : Hid (∀ w : World, Calls Try.prog 43 #[.agg #[.int .i64 r, .int .i64 s, .int .i64 b, .int .i64 o, .int .i64 d], .agg #[.int .i64 p, .int .i64 q, .int .i64 u, .int .i64 v]] w fun e w' => e = .returned (.bool true) ∧ Below w.heap.size w w') := fun w => by rw [← hy]; exact refHolds_any r s b o d p q u v hr hb ho hd9 w
  clear hm hr hb ho hd9 hy
  go_enter Try.func66, Try.ntmps66
  go_upto_region 1 with (fail)
  obtain ⟨B, hB⟩ : ∃ B, w.heap.size = B := ⟨_, rfl⟩
  obtain ⟨C, hC⟩ : ∃ C, B + 1 = C := ⟨_, rfl⟩
  obtain ⟨V, hV⟩ : ∃ V, (w.alloc (.cells #[.int .i64 7, .int .i64 p, .int .i64 q, .int .i64 u, .int .i64 v, .int .i64 c, .int .i64 i, .int .i64 x] 51)).alloc (.cells #[.int .i64 r, .int .i64 s, .int .i64 b, .int .i64 o, .int .i64 d] 30) = V := ⟨_, rfl⟩
  have HS : Hid (Rg B C 7 p q u v c i x r s b o d w V) := by
    rw [← hV, ← hC, ← hB]
    have h1 := Gm.new (w.alloc (.cells #[.int .i64 7, .int .i64 p, .int .i64 q, .int .i64 u, .int .i64 v, .int .i64 c, .int .i64 i, .int .i64 x] 51)) r s b o d 30
    simp only [World.size_alloc] at h1
    exact ⟨(Ft.new w 7 p q u v c i x _).alloc _, h1, ((Below.refl _ w).alloc (Nat.le_refl _) _).alloc (by simp) _, by simp only [World.size_alloc]; omega⟩
  rw [hV, hB, hC]
  clear hV hC
  have f0 := HS.out.f.c0; have f5 := HS.out.f.c5; have f6 := HS.out.f.c6; have f7 := HS.out.f.c7
  go_wp2_with fail
  refine (CC.out _).mono ?_
  rintro e W0 ⟨rfl, rfl⟩
  have e0 : (n == 0) = false := by rw [beq_eq_false_iff_ne]; omega
  have e3 : decide (c < 0) = false := decide_eq_false (by omega)
  have e4 : decide (n ≤ c) = false := decide_eq_false (by omega)
  have e5 : decide (i < 0) = false := decide_eq_false (by omega)
  have e6 : decide (575 < i) = false := decide_eq_false (by omega)
  have e7 : decide (x < 0) = false := decide_eq_false (by omega)
  have e8 : decide (255 < x) = false := decide_eq_false (by omega)
  go_wp2_with (first | refine wpList_load_g (by rfl) 30 _ rfl C 0 rfl [.int .i64 r, .int .i64 s, .int .i64 b, .int .i64 o, .int .i64 d] _ (by exact Bk.range HS.out.g) Try.underlying30 rfl infoRG ?_ | refine wpList_load_g (by rfl) 49 _ rfl B 1 rfl [.int .i64 p, .int .i64 q, .int .i64 u, .int .i64 v] _ (by exact HS.out.f.place) Try.underlying49 rfl infoQ ?_)
  refine (HH.out _).mono ?_
  rintro e W1 ⟨rfl, b1⟩
  replace HS : Hid (Rg B C 7 p q u v c i x r s b o d w W1) := HS.out.next b1
  clear f0 f5 f6 f7 b1
  have f0 := HS.out.f.c0; have f5 := HS.out.f.c5; have f6 := HS.out.f.c6; have f7 := HS.out.f.c7
  have hpl := HS.out.f.place
  obtain ⟨D, hD⟩ : ∃ D, W1.heap.size = D := ⟨_, rfl⟩
  have HP : Hid (Pl (W1.alloc (.cells #[.int .i64 p, .int .i64 q, .int .i64 u, .int .i64 v] 49)) D p q u v) := by rw [← hD]; exact Pl.new W1 p q u v _
  replace HS : Hid (Rg B C 7 p q u v c i x r s b o d w (W1.alloc (.cells #[.int .i64 p, .int .i64 q, .int .i64 u, .int .i64 v] 49))) := HS.out.next ((Below.refl _ W1).alloc (Nat.le_refl _) _)
  go_upto_region 5 with (first | refine wpList_load_mid rfl 49 _ rfl B 1 rfl [.int .i64 p, .int .i64 q, .int .i64 u, .int .i64 v] _ hpl Try.underlying49 rfl infoQ ?_)
  try rw [hD]
  obtain ⟨W2, hW2⟩ : ∃ W2, W1.alloc (.cells #[.int .i64 p, .int .i64 q, .int .i64 u, .int .i64 v] 49) = W2 := ⟨_, rfl⟩
  rw [hW2] at HS HP ⊢
  clear hW2 hpl f0 f5 f6 f7 e0 e3 e4 e5 e6 e7 e8
  have f0 := HS.out.f.c0; have f5 := HS.out.f.c5; have f6 := HS.out.f.c6; have f7 := HS.out.f.c7
  have g0 := HP.out.c0; have g1 := HP.out.c1; have g2 := HP.out.c2; have g3 := HP.out.c3
  clear g0 g1 g2 g3
  by_cases e2 : i = 0
  · have d2 : (i != 0) = false := by simpa using e2
    by_cases e4 : c = 0
    · have d4 : (c != 0) = false := by simpa using e4
      by_cases e6 : x = 0
      · have d6 : (x != 0) = false := by simpa using e6
        have hE : ∀ w, (binOp .eql 49 (.agg #[.int .i64 p, .int .i64 q, .int .i64 u, .int .i64 v]) (.agg #[.int .i64 0, .int .i64 0, .int .i64 0, .int .i64 0])).run Try.prog w = .ok (.bool z) w := fun w => by
          have e1 : z = decide (p = 0 ∧ q = 0 ∧ u = 0 ∧ v = 0) := by
            rw [← Z.out, Bool.eq_iff_iff, rtF_iff, decide_eq_true_eq]
            constructor
            · intro h; have := h.2; omega
            · intro h; exact ⟨rfl, by omega⟩
          rw [e1]; exact eqQ_eql p q u v 0 0 0 0 w
        have gd := eqQ_gd
        go_wp2_with (first | refine wpList_load_g (by rfl) 49 _ rfl D 0 rfl [.int .i64 p, .int .i64 q, .int .i64 u, .int .i64 v] _ (by exact HP.out.range) Try.underlying49 rfl infoQ ?_)
        go_ret
        exact ⟨rfl, by first | exact HS.out.n | (rw [hB]; exact HS.out.n)⟩
      · have d6 : (x != 0) = true := by simpa using e6
        obtain rfl : z = false := by rw [← Z.out]; exact rtF_no (by omega)
        go_wp2
        go_ret
        exact ⟨rfl, by first | exact HS.out.n | (rw [hB]; exact HS.out.n)⟩
    · have d4 : (c != 0) = true := by simpa using e4
      obtain rfl : z = false := by rw [← Z.out]; exact rtF_no (by omega)
      go_wp2
      go_ret
      exact ⟨rfl, by first | exact HS.out.n | (rw [hB]; exact HS.out.n)⟩
  · have d2 : (i != 0) = true := by simpa using e2
    obtain rfl : z = false := by rw [← Z.out]; exact rtF_no (by omega)
    go_wp2
    go_ret
    exact ⟨rfl, by first | exact HS.out.n | (rw [hB]; exact HS.out.n)⟩
theorem refRF_any (k p q u v c i x : Int) (r s b o d m n j : Int) (hm : Md m n j) (hr : I64 r) (hb : I64 b) (ho : I64 o) (hd9 : I64 d) (w : World) :
    Calls Try.prog 66 #[.agg #[.int .i64 k, .int .i64 p, .int .i64 q, .int .i64 u, .int .i64 v, .int .i64 c, .int .i64 i, .int .i64 x], .agg #[.int .i64 r, .int .i64 s, .int .i64 b, .int .i64 o, .int .i64 d], .int .i64 m] w fun e w' => e = .returned (.bool (rtF n (hd r s b o d p q u v) k p q u v c i x)) ∧ Below w.heap.size w w' := by
  obtain ⟨y, hy⟩ : ∃ y, hd r s b o d p q u v = y := ⟨_, rfl⟩
  rw [hy]
  by_cases h : y = true ∧ 1 ≤ k ∧ k ≤ 7 ∧ 0 ≤ c ∧ c < n ∧ 0 ≤ i ∧ i < 576 ∧ 0 ≤ x ∧ x < 256
  · obtain ⟨h0, h1, h2, h3, h4, h5, h6, h7, h8⟩ := h
    rcases (show k = 1 ∨ k = 2 ∨ k = 3 ∨ k = 4 ∨ k = 5 ∨ k = 6 ∨ k = 7 by omega) with rfl | rfl | rfl | rfl | rfl | rfl | rfl
    · exact refRF_1 p q u v c i x r s b o d m n j hm hr hb ho hd9 y hy h0 h3 h4 h5 h6 h7 h8 w
    · exact refRF_2 p q u v c i x r s b o d m n j hm hr hb ho hd9 y hy h0 h3 h4 h5 h6 h7 h8 w
    · exact refRF_3 p q u v c i x r s b o d m n j hm hr hb ho hd9 y hy h0 h3 h4 h5 h6 h7 h8 w
    · exact refRF_4 p q u v c i x r s b o d m n j hm hr hb ho hd9 y hy h0 h3 h4 h5 h6 h7 h8 w
    · exact refRF_5 p q u v c i x r s b o d m n j hm hr hb ho hd9 y hy h0 h3 h4 h5 h6 h7 h8 w
    · exact refRF_6 p q u v c i x r s b o d m n j hm hr hb ho hd9 y hy h0 h3 h4 h5 h6 h7 h8 w
    · exact refRF_7 p q u v c i x r s b o d m n j hm hr hb ho hd9 y hy h0 h3 h4 h5 h6 h7 h8 w
  · have h9 : y = false ∨ ¬ (1 ≤ k ∧ k ≤ 7 ∧ 0 ≤ c ∧ c < n ∧ 0 ≤ i ∧ i < 576 ∧ 0 ≤ x ∧ x < 256) := by
      cases y
      · exact .inl rfl
      · exact .inr fun g => h ⟨rfl, g⟩
    have e : rtF n y k p q u v c i x = false := by
      rcases h9 with rfl | h9
      · exact rtF_out
      · exact rtF_no fun g => h9 (by omega)
    rw [e]
    exact refRF_bad k p q u v c i x r s b o d m n j hm hr hb ho hd9 y hy h9 w
end Go.Proofs.Ytcpjmfemgdgplaa
