/-
  Texts of one family, one behind another: FaR3, FlatArgs, FaW10, DrR1.
-/
import Derived.Test.YtcpjmfemgdgplaaM09
import Derived.Test.YtcpjmfemgdgplaaM01
import Derived.Deep.Slices
import Derived.Test.YtcpjmfemgdgplaaM08

/-
  The document's Right, by the kinds.
-/
namespace Go.Proofs.Ytcpjmfemgdgplaa
open Go.RowKit Go.Shelf
open Ge (pw rt hd ix)
attribute [local go_sem] Oper.semAt_some

set_option maxRecDepth 100000 in
set_option maxHeartbeats 4000000 in
theorem refRF_1 (p q u v c i x : Int) (r s b o d m n j : Int) (hm : Md m n j) (hr : I64 r) (hb : I64 b) (ho : I64 o) (hd9 : I64 d) (y : Bool) (hy : hd r s b o d p q u v = y) (hY : y = true) (gc0 : 0 ≤ c) (gc1 : c < n) (gi0 : 0 ≤ i) (gi1 : i < 576) (gx0 : 0 ≤ x) (gx1 : x < 256) (w : World) :
    Calls Try.prog 66 #[.agg #[.int .i64 1, .int .i64 p, .int .i64 q, .int .i64 u, .int .i64 v, .int .i64 c, .int .i64 i, .int .i64 x], .agg #[.int .i64 r, .int .i64 s, .int .i64 b, .int .i64 o, .int .i64 d], .int .i64 m] w fun e w' => e = .returned (.bool (rtF n y 1 p q u v c i x)) ∧ Below w.heap.size w w' := by
  subst hY
  obtain ⟨z, Z⟩ : ∃ z, Hid (rtF n true 1 p q u v c i x = z) := ⟨_, rfl⟩
  rw [Z.out]
  have CC : Hid (∀ w : World, Calls Try.prog 52 #[.int .i64 m] w fun e w' => e = .returned (.int .i64 n) ∧ w' = w) := fun w => refChips_any hm w
  have HH : Hid (∀ w : World, Calls Try.prog 43 #[.agg #[.int .i64 r, .int .i64 s, .int .i64 b, .int .i64 o, .int .i64 d], .agg #[.int .i64 p, .int .i64 q, .int .i64 u, .int .i64 v]] w fun e w' => e = .returned (.bool true) ∧ Below w.heap.size w w') := fun w => by rw [← hy]; exact refHolds_any r s b o d p q u v hr hb ho hd9 w
  clear hm hr hb ho hd9 hy
  go_enter Try.func66, Try.ntmps66
  go_upto_region 1 with (fail)
  obtain ⟨B, hB⟩ : ∃ B, w.heap.size = B := ⟨_, rfl⟩
  obtain ⟨C, hC⟩ : ∃ C, B + 1 = C := ⟨_, rfl⟩
  obtain ⟨V, hV⟩ : ∃ V, (w.alloc (.cells #[.int .i64 1, .int .i64 p, .int .i64 q, .int .i64 u, .int .i64 v, .int .i64 c, .int .i64 i, .int .i64 x] 51)).alloc (.cells #[.int .i64 r, .int .i64 s, .int .i64 b, .int .i64 o, .int .i64 d] 30) = V := ⟨_, rfl⟩
  have HS : Hid (Rg B C 1 p q u v c i x r s b o d w V) := by
    rw [← hV, ← hC, ← hB]
    have h1 := Gm.new (w.alloc (.cells #[.int .i64 1, .int .i64 p, .int .i64 q, .int .i64 u, .int .i64 v, .int .i64 c, .int .i64 i, .int .i64 x] 51)) r s b o d 30
    simp only [World.size_alloc] at h1
    exact ⟨(Ft.new w 1 p q u v c i x _).alloc _, h1, ((Below.refl _ w).alloc (Nat.le_refl _) _).alloc (by simp) _, by simp only [World.size_alloc]; omega⟩
  rw [hV, hB, hC]
  clear hV hC
  have f0 := HS.out.f.c0; have f5 := HS.out.f.c5; have f6 := HS.out.f.c6; have f7 := HS.out.f.c7
  go_wp2_with fail
  refine (CC.out _).mono ?_
  rintro e W0 ⟨rfl, rfl⟩
  have e0 : (n == 0) = false := by rw [beq_eq_false_iff_ne]; omega
  have e3 : decide (c < 0) = false := decide_eq_false (by omega)
  have e4 : decide (n ≤ c) = false := decide_eq_false (by omega)
  have e5 : decide (i < 0) = false := decide_eq_false (by omega)
  have e6 : decide (575 < i) = false := decide_eq_false (by omega)
  have e7 : decide (x < 0) = false := decide_eq_false (by omega)
  have e8 : decide (255 < x) = false := decide_eq_false (by omega)
  go_wp2_with (first | refine wpList_load_g (by rfl) 30 _ rfl C 0 rfl [.int .i64 r, .int .i64 s, .int .i64 b, .int .i64 o, .int .i64 d] _ (by exact Bk.range HS.out.g) Try.underlying30 rfl infoRG ?_ | refine wpList_load_g (by rfl) 49 _ rfl B 1 rfl [.int .i64 p, .int .i64 q, .int .i64 u, .int .i64 v] _ (by exact HS.out.f.place) Try.underlying49 rfl infoQ ?_)
  refine (HH.out _).mono ?_
  rintro e W1 ⟨rfl, b1⟩
  replace HS : Hid (Rg B C 1 p q u v c i x r s b o d w W1) := HS.out.next b1
  clear f0 f5 f6 f7 b1
  have f0 := HS.out.f.c0; have f5 := HS.out.f.c5; have f6 := HS.out.f.c6; have f7 := HS.out.f.c7
  have hpl := HS.out.f.place
  obtain ⟨D, hD⟩ : ∃ D, W1.heap.size = D := ⟨_, rfl⟩
  have HP : Hid (Pl (W1.alloc (.cells #[.int .i64 p, .int .i64 q, .int .i64 u, .int .i64 v] 49)) D p q u v) := by rw [← hD]; exact Pl.new W1 p q u v _
  replace HS : Hid (Rg B C 1 p q u v c i x r s b o d w (W1.alloc (.cells #[.int .i64 p, .int .i64 q, .int .i64 u, .int .i64 v] 49))) := HS.out.next ((Below.refl _ W1).alloc (Nat.le_refl _) _)
  go_upto_region 5 with (first | refine wpList_load_mid rfl 49 _ rfl B 1 rfl [.int .i64 p, .int .i64 q, .int .i64 u, .int .i64 v] _ hpl Try.underlying49 rfl infoQ ?_)
  try rw [hD]
  obtain ⟨W2, hW2⟩ : ∃ W2, W1.alloc (.cells #[.int .i64 p, .int .i64 q, .int .i64 u, .int .i64 v] 49) = W2 := ⟨_, rfl⟩
  rw [hW2] at HS HP ⊢
  clear hW2 hpl f0 f5 f6 f7 e0 e3 e4 e5 e6 e7 e8
  have f0 := HS.out.f.c0; have f5 := HS.out.f.c5; have f6 := HS.out.f.c6; have f7 := HS.out.f.c7
  have g0 := HP.out.c0; have g1 := HP.out.c1; have g2 := HP.out.c2; have g3 := HP.out.c3
  by_cases e2 : c = 0
  · have d2 : (c == 0) = true := by simpa using e2
    by_cases e4 : x = 0
    · have d4 : (x == 0) = true := by simpa using e4
      obtain rfl : z = true := by rw [← Z.out]; exact rtF_yes (by omega)
      go_wp2
      go_ret
      exact ⟨rfl, by first | exact HS.out.n | (rw [hB]; exact HS.out.n)⟩
    · have d4 : (x == 0) = false := by simpa using e4
      obtain rfl : z = false := by rw [← Z.out]; exact rtF_no (by omega)
      go_wp2
      go_ret
      exact ⟨rfl, by first | exact HS.out.n | (rw [hB]; exact HS.out.n)⟩
  · have d2 : (c == 0) = false := by simpa using e2
    obtain rfl : z = false := by rw [← Z.out]; exact rtF_no (by omega)
    go_wp2
    go_ret
    exact ⟨rfl, by first | exact HS.out.n | (rw [hB]; exact HS.out.n)⟩
set_option maxRecDepth 100000 in
set_option maxHeartbeats 4000000 in
theorem refRF_2 (p q u v c i x : Int) (r s b o d m n j : Int) (hm : Md m n j) (hr : I64 r) (hb : I64 b) (ho : I64 o) (hd9 : I64 d) (y : Bool) (hy : hd r s b o d p q u v = y) (hY : y = true) (gc0 : 0 ≤ c) (gc1 : c < n) (gi0 : 0 ≤ i) (gi1 : i < 576) (gx0 : 0 ≤ x) (gx1 : x < 256) (w : World) :
    Calls Try.prog 66 #[.agg #[.int .i64 2, .int .i64 p, .int .i64 q, .int .i64 u, .int .i64 v, .int .i64 c, .int .i64 i, .int .i64 x], .agg #[.int .i64 r, .int .i64 s, .int .i64 b, .int .i64 o, .int .i64 d], .int .i64 m] w fun e w' => e = .returned (.bool (rtF n y 2 p q u v c i x)) ∧ Below w.heap.size w w' := by
  subst hY
  obtain ⟨z, Z⟩ : ∃ z, Hid (rtF n true 2 p q u v c i x = z) := ⟨_, rfl⟩
  rw [Z.out]
  have CC : Hid (∀ w : World, Calls Try.prog 52 #[.int .i64 m] w fun e w' => e = .returned (.int .i64 n) ∧ w' = w) := fun w => refChips_any hm w
  have HH : Hid (∀ w : World, Calls Try.prog 43 #[.agg #[.int .i64 r, .int .i64 s, .int .i64 b, .int .i64 o, .int .i64 d], .agg #[.int .i64 p, .int .i64 q, .int .i64 u, .int .i64 v]] w fun e w' => e = .returned (.bool true) ∧ Below w.heap.size w w') := fun w => by rw [← hy]; exact refHolds_any r s b o d p q u v hr hb ho hd9 w
  clear hm hr hb ho hd9 hy
  go_enter Try.func66, Try.ntmps66
  go_upto_region 1 with (fail)
  obtain ⟨B, hB⟩ : ∃ B, w.heap.size = B := ⟨_, rfl⟩
  obtain ⟨C, hC⟩ : ∃ C, B + 1 = C := ⟨_, rfl⟩
  obtain ⟨V, hV⟩ : ∃ V, (w.alloc (.cells #[.int .i64 2, .int .i64 p, .int .i64 q, .int .i64 u, .int .i64 v, .int .i64 c, .int .i64 i, .int .i64 x] 51)).alloc (.cells #[.int .i64 r, .int .i64 s, .int .i64 b, .int .i64 o, .int .i64 d] 30) = V := ⟨_, rfl⟩
  have HS : Hid (Rg B C 2 p q u v c i x r s b o d w V) := by
    rw [← hV, ← hC, ← hB]
    have h1 := Gm.new (w.alloc (.cells #[.int .i64 2, .int .i64 p, .int .i64 q, .int .i64 u, .int .i64 v, .int .i64 c, .int .i64 i, .int .i64 x] 51)) r s b o d 30
    simp only [World.size_alloc] at h1
    exact ⟨(Ft.new w 2 p q u v c i x _).alloc _, h1, ((Below.refl _ w).alloc (Nat.le_refl _) _).alloc (by simp) _, by simp only [World.size_alloc]; omega⟩
  rw [hV, hB, hC]
  clear hV hC
  have f0 := HS.out.f.c0; have f5 := HS.out.f.c5; have f6 := HS.out.f.c6; have f7 := HS.out.f.c7
  go_wp2_with fail
  refine (CC.out _).mono ?_
  rintro e W0 ⟨rfl, rfl⟩
  have e0 : (n == 0) = false := by rw [beq_eq_false_iff_ne]; omega
  have e3 : decide (c < 0) = false := decide_eq_false (by omega)
  have e4 : decide (n ≤ c) = false := decide_eq_false (by omega)
  have e5 : decide (i < 0) = false := decide_eq_false (by omega)
  have e6 : decide (575 < i) = false := decide_eq_false (by omega)
  have e7 : decide (x < 0) = false := decide_eq_false (by omega)
  have e8 : decide (255 < x) = false := decide_eq_false (by omega)
  go_wp2_with (first | refine wpList_load_g (by rfl) 30 _ rfl C 0 rfl [.int .i64 r, .int .i64 s, .int .i64 b, .int .i64 o, .int .i64 d] _ (by exact Bk.range HS.out.g) Try.underlying30 rfl infoRG ?_ | refine wpList_load_g (by rfl) 49 _ rfl B 1 rfl [.int .i64 p, .int .i64 q, .int .i64 u, .int .i64 v] _ (by exact HS.out.f.place) Try.underlying49 rfl infoQ ?_)
  refine (HH.out _).mono ?_
  rintro e W1 ⟨rfl, b1⟩
  replace HS : Hid (Rg B C 2 p q u v c i x r s b o d w W1) := HS.out.next b1
  clear f0 f5 f6 f7 b1
  have f0 := HS.out.f.c0; have f5 := HS.out.f.c5; have f6 := HS.out.f.c6; have f7 := HS.out.f.c7
  have hpl := HS.out.f.place
  obtain ⟨D, hD⟩ : ∃ D, W1.heap.size = D := ⟨_, rfl⟩
  have HP : Hid (Pl (W1.alloc (.cells #[.int .i64 p, .int .i64 q, .int .i64 u, .int .i64 v] 49)) D p q u v) := by rw [← hD]; exact Pl.new W1 p q u v _
  replace HS : Hid (Rg B C 2 p q u v c i x r s b o d w (W1.alloc (.cells #[.int .i64 p, .int .i64 q, .int .i64 u, .int .i64 v] 49))) := HS.out.next ((Below.refl _ W1).alloc (Nat.le_refl _) _)
  go_upto_region 5 with (first | refine wpList_load_mid rfl 49 _ rfl B 1 rfl [.int .i64 p, .int .i64 q, .int .i64 u, .int .i64 v] _ hpl Try.underlying49 rfl infoQ ?_)
  try rw [hD]
  obtain ⟨W2, hW2⟩ : ∃ W2, W1.alloc (.cells #[.int .i64 p, .int .i64 q, .int .i64 u, .int .i64 v] 49) = W2 := ⟨_, rfl⟩
  rw [hW2] at HS HP ⊢
  clear hW2 hpl f0 f5 f6 f7 e0 e3 e4 e5 e6 e7 e8
  have f0 := HS.out.f.c0; have f5 := HS.out.f.c5; have f6 := HS.out.f.c6; have f7 := HS.out.f.c7
  have g0 := HP.out.c0; have g1 := HP.out.c1; have g2 := HP.out.c2; have g3 := HP.out.c3
  by_cases e2 : c = 0
  · have d2 : (c == 0) = true := by simpa using e2
    by_cases e4 : x ≤ 1
    · have d4 : decide (x ≤ 1) = true := decide_eq_true e4
      obtain rfl : z = true := by rw [← Z.out]; exact rtF_yes (by omega)
      go_wp2
      go_ret
      exact ⟨rfl, by first | exact HS.out.n | (rw [hB]; exact HS.out.n)⟩
    · have d4 : decide (x ≤ 1) = false := decide_eq_false e4
      obtain rfl : z = false := by rw [← Z.out]; exact rtF_no (by omega)
      go_wp2
      go_ret
      exact ⟨rfl, by first | exact HS.out.n | (rw [hB]; exact HS.out.n)⟩
  · have d2 : (c == 0) = false := by simpa using e2
    obtain rfl : z = false := by rw [← Z.out]; exact rtF_no (by omega)
    go_wp2
    go_ret
    exact ⟨rfl, by first | exact HS.out.n | (rw [hB]; exact HS.out.n)⟩
set_option maxRecDepth 100000 in
set_option maxHeartbeats 4000000 in
theorem refRF_3 (p q u v c i x : Int) (r s b o d m n j : Int) (hm : Md m n j) (hr : I64 r) (hb : I64 b) (ho : I64 o) (hd9 : I64 d) (y : Bool) (hy : hd r s b o d p q u v = y) (hY : y = true) (gc0 : 0 ≤ c) (gc1 : c < n) (gi0 : 0 ≤ i) (gi1 : i < 576) (gx0 : 0 ≤ x) (gx1 : x < 256) (w : World) :
    Calls Try.prog 66 #[.agg #[.int .i64 3, .int .i64 p, .int .i64 q, .int .i64 u, .int .i64 v, .int .i64 c, .int .i64 i, .int .i64 x], .agg #[.int .i64 r, .int .i64 s, .int .i64 b, .int .i64 o, .int .i64 d], .int .i64 m] w fun e w' => e = .returned (.bool (rtF n y 3 p q u v c i x)) ∧ Below w.heap.size w w' := by
  subst hY
  obtain ⟨z, Z⟩ : ∃ z, Hid (rtF n true 3 p q u v c i x = z) := ⟨_, rfl⟩
  rw [Z.out]
  have CC : Hid (∀ w : World, Calls Try.prog 52 #[.int .i64 m] w fun e w' => e = .returned (.int .i64 n) ∧ w' = w) := fun w => refChips_any hm w
  have HH : Hid (∀ w : World, Calls Try.prog 43 #[.agg #[.int .i64 r, .int .i64 s, .int .i64 b, .int .i64 o, .int .i64 d], .agg #[.int .i64 p, .int .i64 q, .int .i64 u, .int .i64 v]] w fun e w' => e = .returned (.bool true) ∧ Below w.heap.size w w') := fun w => by rw [← hy]; exact refHolds_any r s b o d p q u v hr hb ho hd9 w
  clear hm hr hb ho hd9 hy
  go_enter Try.func66, Try.ntmps66
  go_upto_region 1 with (fail)
  obtain ⟨B, hB⟩ : ∃ B, w.heap.size = B := ⟨_, rfl⟩
  obtain ⟨C, hC⟩ : ∃ C, B + 1 = C := ⟨_, rfl⟩
  obtain ⟨V, hV⟩ : ∃ V, (w.alloc (.cells #[.int .i64 3, .int .i64 p, .int .i64 q, .int .i64 u, .int .i64 v, .int .i64 c, .int .i64 i, .int .i64 x] 51)).alloc (.cells #[.int .i64 r, .int .i64 s, .int .i64 b, .int .i64 o, .int .i64 d] 30) = V := ⟨_, rfl⟩
  have HS : Hid (Rg B C 3 p q u v c i x r s b o d w V) := by
    rw [← hV, ← hC, ← hB]
    have h1 := Gm.new (w.alloc (.cells #[.int .i64 3, .int .i64 p, .int .i64 q, .int .i64 u, .int .i64 v, .int .i64 c, .int .i64 i, .int .i64 x] 51)) r s b o d 30
    simp only [World.size_alloc] at h1
    exact ⟨(Ft.new w 3 p q u v c i x _).alloc _, h1, ((Below.refl _ w).alloc (Nat.le_refl _) _).alloc (by simp) _, by simp only [World.size_alloc]; omega⟩
  rw [hV, hB, hC]
  clear hV hC
  have f0 := HS.out.f.c0; have f5 := HS.out.f.c5; have f6 := HS.out.f.c6; have f7 := HS.out.f.c7
  go_wp2_with fail
  refine (CC.out _).mono ?_
  rintro e W0 ⟨rfl, rfl⟩
  have e0 : (n == 0) = false := by rw [beq_eq_false_iff_ne]; omega
  have e3 : decide (c < 0) = false := decide_eq_false (by omega)
  have e4 : decide (n ≤ c) = false := decide_eq_false (by omega)
  have e5 : decide (i < 0) = false := decide_eq_false (by omega)
  have e6 : decide (575 < i) = false := decide_eq_false (by omega)
  have e7 : decide (x < 0) = false := decide_eq_false (by omega)
  have e8 : decide (255 < x) = false := decide_eq_false (by omega)
  go_wp2_with (first | refine wpList_load_g (by rfl) 30 _ rfl C 0 rfl [.int .i64 r, .int .i64 s, .int .i64 b, .int .i64 o, .int .i64 d] _ (by exact Bk.range HS.out.g) Try.underlying30 rfl infoRG ?_ | refine wpList_load_g (by rfl) 49 _ rfl B 1 rfl [.int .i64 p, .int .i64 q, .int .i64 u, .int .i64 v] _ (by exact HS.out.f.place) Try.underlying49 rfl infoQ ?_)
  refine (HH.out _).mono ?_
  rintro e W1 ⟨rfl, b1⟩
  replace HS : Hid (Rg B C 3 p q u v c i x r s b o d w W1) := HS.out.next b1
  clear f0 f5 f6 f7 b1
  have f0 := HS.out.f.c0; have f5 := HS.out.f.c5; have f6 := HS.out.f.c6; have f7 := HS.out.f.c7
  have hpl := HS.out.f.place
  obtain ⟨D, hD⟩ : ∃ D, W1.heap.size = D := ⟨_, rfl⟩
  have HP : Hid (Pl (W1.alloc (.cells #[.int .i64 p, .int .i64 q, .int .i64 u, .int .i64 v] 49)) D p q u v) := by rw [← hD]; exact Pl.new W1 p q u v _
  replace HS : Hid (Rg B C 3 p q u v c i x r s b o d w (W1.alloc (.cells #[.int .i64 p, .int .i64 q, .int .i64 u, .int .i64 v] 49))) := HS.out.next ((Below.refl _ W1).alloc (Nat.le_refl _) _)
  go_upto_region 5 with (first | refine wpList_load_mid rfl 49 _ rfl B 1 rfl [.int .i64 p, .int .i64 q, .int .i64 u, .int .i64 v] _ hpl Try.underlying49 rfl infoQ ?_)
  try rw [hD]
  obtain ⟨W2, hW2⟩ : ∃ W2, W1.alloc (.cells #[.int .i64 p, .int .i64 q, .int .i64 u, .int .i64 v] 49) = W2 := ⟨_, rfl⟩
  rw [hW2] at HS HP ⊢
  clear hW2 hpl f0 f5 f6 f7 e0 e3 e4 e5 e6 e7 e8
  have f0 := HS.out.f.c0; have f5 := HS.out.f.c5; have f6 := HS.out.f.c6; have f7 := HS.out.f.c7
  have g0 := HP.out.c0; have g1 := HP.out.c1; have g2 := HP.out.c2; have g3 := HP.out.c3
  by_cases e2 : i = 0
  · have d2 : (i != 0) = false := by simpa using e2
    by_cases e4 : v = 0
    · have d4 : (v == 0) = true := by simpa using e4
      obtain rfl : z = true := by rw [← Z.out]; exact rtF_yes (by omega)
      go_wp2
      go_ret
      exact ⟨rfl, by first | exact HS.out.n | (rw [hB]; exact HS.out.n)⟩
    · have d4 : (v == 0) = false := by simpa using e4
      obtain rfl : z = false := by rw [← Z.out]; exact rtF_no (by omega)
      go_wp2
      go_ret
      exact ⟨rfl, by first | exact HS.out.n | (rw [hB]; exact HS.out.n)⟩
  · have d2 : (i != 0) = true := by simpa using e2
    obtain rfl : z = false := by rw [← Z.out]; exact rtF_no (by omega)
    go_wp2
    go_ret
    exact ⟨rfl, by first | exact HS.out.n | (rw [hB]; exact HS.out.n)⟩
set_option maxRecDepth 100000 in
set_option maxHeartbeats 4000000 in
theorem refRF_4 (p q u v c i x : Int) (r s b o d m n j : Int) (hm : Md m n j) (hr : I64 r) (hb : I64 b) (ho : I64 o) (hd9 : I64 d) (y : Bool) (hy : hd r s b o d p q u v = y) (hY : y = true) (gc0 : 0 ≤ c) (gc1 : c < n) (gi0 : 0 ≤ i) (gi1 : i < 576) (gx0 : 0 ≤ x) (gx1 : x < 256) (w : World) :
    Calls Try.prog 66 #[.agg #[.int .i64 4, .int .i64 p, .int .i64 q, .int .i64 u, .int .i64 v, .int .i64 c, .int .i64 i, .int .i64 x], .agg #[.int .i64 r, .int .i64 s, .int .i64 b, .int .i64 o, .int .i64 d], .int .i64 m] w fun e w' => e = .returned (.bool (rtF n y 4 p q u v c i x)) ∧ Below w.heap.size w w' := by
  subst hY
  obtain ⟨z, Z⟩ : ∃ z, Hid (rtF n true 4 p q u v c i x = z) := ⟨_, rfl⟩
  rw [Z.out]
  have CC : Hid (∀ w : World, Calls Try.prog 52 #[.int .i64 m] w fun e w' => e = .returned (.int .i64 n) ∧ w' = w) := fun w => refChips_any hm w
  have HH : Hid (∀ w : World, Calls Try.prog 43 #[.agg #[.int .i64 r, .int .i64 s, .int .i64 b, .int .i64 o, .int .i64 d], .agg #[.int .i64 p, .int .i64 q, .int .i64 u, .int .i64 v]] w fun e w' => e = .returned (.bool true) ∧ Below w.heap.size w w') := fun w => by rw [← hy]; exact refHolds_any r s b o d p q u v hr hb ho hd9 w
  clear hm hr hb ho hd9 hy
  go_enter Try.func66, Try.ntmps66
  go_upto_region 1 with (fail)
  obtain ⟨B, hB⟩ : ∃ B, w.heap.size = B := ⟨_, rfl⟩
  obtain ⟨C, hC⟩ : ∃ C, B + 1 = C := ⟨_, rfl⟩
  obtain ⟨V, hV⟩ : ∃ V, (w.alloc (.cells #[.int .i64 4, .int .i64 p, .int .i64 q, .int .i64 u, .int .i64 v, .int .i64 c, .int .i64 i, .int .i64 x] 51)).alloc (.cells #[.int .i64 r, .int .i64 s, .int .i64 b, .int .i64 o, .int .i64 d] 30) = V := ⟨_, rfl⟩
  have HS : Hid (Rg B C 4 p q u v c i x r s b o d w V) := by
    rw [← hV, ← hC, ← hB]
    have h1 := Gm.new (w.alloc (.cells #[.int .i64 4, .int .i64 p, .int .i64 q, .int .i64 u, .int .i64 v, .int .i64 c, .int .i64 i, .int .i64 x] 51)) r s b o d 30
    simp only [World.size_alloc] at h1
    exact ⟨(Ft.new w 4 p q u v c i x _).alloc _, h1, ((Below.refl _ w).alloc (Nat.le_refl _) _).alloc (by simp) _, by simp only [World.size_alloc]; omega⟩
  rw [hV, hB, hC]
  clear hV hC
  have f0 := HS.out.f.c0; have f5 := HS.out.f.c5; have f6 := HS.out.f.c6; have f7 := HS.out.f.c7
  go_wp2_with fail
  refine (CC.out _).mono ?_
  rintro e W0 ⟨rfl, rfl⟩
  have e0 : (n == 0) = false := by rw [beq_eq_false_iff_ne]; omega
  have e3 : decide (c < 0) = false := decide_eq_false (by omega)
  have e4 : decide (n ≤ c) = false := decide_eq_false (by omega)
  have e5 : decide (i < 0) = false := decide_eq_false (by omega)
  have e6 : decide (575 < i) = false := decide_eq_false (by omega)
  have e7 : decide (x < 0) = false := decide_eq_false (by omega)
  have e8 : decide (255 < x) = false := decide_eq_false (by omega)
  go_wp2_with (first | refine wpList_load_g (by rfl) 30 _ rfl C 0 rfl [.int .i64 r, .int .i64 s, .int .i64 b, .int .i64 o, .int .i64 d] _ (by exact Bk.range HS.out.g) Try.underlying30 rfl infoRG ?_ | refine wpList_load_g (by rfl) 49 _ rfl B 1 rfl [.int .i64 p, .int .i64 q, .int .i64 u, .int .i64 v] _ (by exact HS.out.f.place) Try.underlying49 rfl infoQ ?_)
  refine (HH.out _).mono ?_
  rintro e W1 ⟨rfl, b1⟩
  replace HS : Hid (Rg B C 4 p q u v c i x r s b o d w W1) := HS.out.next b1
  clear f0 f5 f6 f7 b1
  have f0 := HS.out.f.c0; have f5 := HS.out.f.c5; have f6 := HS.out.f.c6; have f7 := HS.out.f.c7
  have hpl := HS.out.f.place
  obtain ⟨D, hD⟩ : ∃ D, W1.heap.size = D := ⟨_, rfl⟩
  have HP : Hid (Pl (W1.alloc (.cells #[.int .i64 p, .int .i64 q, .int .i64 u, .int .i64 v] 49)) D p q u v) := by rw [← hD]; exact Pl.new W1 p q u v _
  replace HS : Hid (Rg B C 4 p q u v c i x r s b o d w (W1.alloc (.cells #[.int .i64 p, .int .i64 q, .int .i64 u, .int .i64 v] 49))) := HS.out.next ((Below.refl _ W1).alloc (Nat.le_refl _) _)
  go_upto_region 5 with (first | refine wpList_load_mid rfl 49 _ rfl B 1 rfl [.int .i64 p, .int .i64 q, .int .i64 u, .int .i64 v] _ hpl Try.underlying49 rfl infoQ ?_)
  try rw [hD]
  obtain ⟨W2, hW2⟩ : ∃ W2, W1.alloc (.cells #[.int .i64 p, .int .i64 q, .int .i64 u, .int .i64 v] 49) = W2 := ⟨_, rfl⟩
  rw [hW2] at HS HP ⊢
  clear hW2 hpl f0 f5 f6 f7 e0 e3 e4 e5 e6 e7 e8
  have f0 := HS.out.f.c0; have f5 := HS.out.f.c5; have f6 := HS.out.f.c6; have f7 := HS.out.f.c7
  have g0 := HP.out.c0; have g1 := HP.out.c1; have g2 := HP.out.c2; have g3 := HP.out.c3
  by_cases e2 : i = 0
  · have d2 : (i != 0) = false := by simpa using e2
    by_cases e4 : u = 0
    · have d4 : (u == 0) = true := by simpa using e4
      obtain rfl : z = true := by rw [← Z.out]; exact rtF_yes (by omega)
      go_wp2
      go_ret
      exact ⟨rfl, by first | exact HS.out.n | (rw [hB]; exact HS.out.n)⟩
    · have d4 : (u == 0) = false := by simpa using e4
      obtain rfl : z = false := by rw [← Z.out]; exact rtF_no (by omega)
      go_wp2
      go_ret
      exact ⟨rfl, by first | exact HS.out.n | (rw [hB]; exact HS.out.n)⟩
  · have d2 : (i != 0) = true := by simpa using e2
    obtain rfl : z = false := by rw [← Z.out]; exact rtF_no (by omega)
    go_wp2
    go_ret
    exact ⟨rfl, by first | exact HS.out.n | (rw [hB]; exact HS.out.n)⟩
set_option maxRecDepth 100000 in
set_option maxHeartbeats 4000000 in
theorem refRF_5 (p q u v c i x : Int) (r s b o d m n j : Int) (hm : Md m n j) (hr : I64 r) (hb : I64 b) (ho : I64 o) (hd9 : I64 d) (y : Bool) (hy : hd r s b o d p q u v = y) (hY : y = true) (gc0 : 0 ≤ c) (gc1 : c < n) (gi0 : 0 ≤ i) (gi1 : i < 576) (gx0 : 0 ≤ x) (gx1 : x < 256) (w : World) :
    Calls Try.prog 66 #[.agg #[.int .i64 5, .int .i64 p, .int .i64 q, .int .i64 u, .int .i64 v, .int .i64 c, .int .i64 i, .int .i64 x], .agg #[.int .i64 r, .int .i64 s, .int .i64 b, .int .i64 o, .int .i64 d], .int .i64 m] w fun e w' => e = .returned (.bool (rtF n y 5 p q u v c i x)) ∧ Below w.heap.size w w' := by
  subst hY
  obtain ⟨z, Z⟩ : ∃ z, Hid (rtF n true 5 p q u v c i x = z) := ⟨_, rfl⟩
  rw [Z.out]
  have CC : Hid (∀ w : World, Calls Try.prog 52 #[.int .i64 m] w fun e w' => e = .returned (.int .i64 n) ∧ w' = w) := fun w => refChips_any hm w
  have HH : Hid (∀ w : World, Calls Try.prog 43 #[.agg #[.int .i64 r, .int .i64 s, .int .i64 b, .int .i64 o, .int .i64 d], .agg #[.int .i64 p, .int .i64 q, .int .i64 u, .int .i64 v]] w fun e w' => e = .returned (.bool true) ∧ Below w.heap.size w w') := fun w => by rw [← hy]; exact refHolds_any r s b o d p q u v hr hb ho hd9 w
  clear hm hr hb ho hd9 hy
  go_enter Try.func66, Try.ntmps66
  go_upto_region 1 with (fail)
  obtain ⟨B, hB⟩ : ∃ B, w.heap.size = B := ⟨_, rfl⟩
  obtain ⟨C, hC⟩ : ∃ C, B + 1 = C := ⟨_, rfl⟩
  obtain ⟨V, hV⟩ : ∃ V, (w.alloc (.cells #[.int .i64 5, .int .i64 p, .int .i64 q, .int .i64 u, .int .i64 v, .int .i64 c, .int .i64 i, .int .i64 x] 51)).alloc (.cells #[.int .i64 r, .int .i64 s, .int .i64 b, .int .i64 o, .int .i64 d] 30) = V := ⟨_, rfl⟩
  have HS : Hid (Rg B C 5 p q u v c i x r s b o d w V) := by
    rw [← hV, ← hC, ← hB]
    have h1 := Gm.new (w.alloc (.cells #[.int .i64 5, .int .i64 p, .int .i64 q, .int .i64 u, .int .i64 v, .int .i64 c, .int .i64 i, .int .i64 x] 51)) r s b o d 30
    simp only [World.size_alloc] at h1
    exact ⟨(Ft.new w 5 p q u v c i x _).alloc _, h1, ((Below.refl _ w).alloc (Nat.le_refl _) _).alloc (by simp) _, by simp only [World.size_alloc]; omega⟩
  rw [hV, hB, hC]
  clear hV hC
  have f0 := HS.out.f.c0; have f5 := HS.out.f.c5; have f6 := HS.out.f.c6; have f7 := HS.out.f.c7
  go_wp2_with fail
  refine (CC.out _).mono ?_
  rintro e W0 ⟨rfl, rfl⟩
  have e0 : (n == 0) = false := by rw [beq_eq_false_iff_ne]; omega
  have e3 : decide (c < 0) = false := decide_eq_false (by omega)
  have e4 : decide (n ≤ c) = false := decide_eq_false (by omega)
  have e5 : decide (i < 0) = false := decide_eq_false (by omega)
  have e6 : decide (575 < i) = false := decide_eq_false (by omega)
  have e7 : decide (x < 0) = false := decide_eq_false (by omega)
  have e8 : decide (255 < x) = false := decide_eq_false (by omega)
  go_wp2_with (first | refine wpList_load_g (by rfl) 30 _ rfl C 0 rfl [.int .i64 r, .int .i64 s, .int .i64 b, .int .i64 o, .int .i64 d] _ (by exact Bk.range HS.out.g) Try.underlying30 rfl infoRG ?_ | refine wpList_load_g (by rfl) 49 _ rfl B 1 rfl [.int .i64 p, .int .i64 q, .int .i64 u, .int .i64 v] _ (by exact HS.out.f.place) Try.underlying49 rfl infoQ ?_)
  refine (HH.out _).mono ?_
  rintro e W1 ⟨rfl, b1⟩
  replace HS : Hid (Rg B C 5 p q u v c i x r s b o d w W1) := HS.out.next b1
  clear f0 f5 f6 f7 b1
  have f0 := HS.out.f.c0; have f5 := HS.out.f.c5; have f6 := HS.out.f.c6; have f7 := HS.out.f.c7
  have hpl := HS.out.f.place
  obtain ⟨D, hD⟩ : ∃ D, W1.heap.size = D := ⟨_, rfl⟩
  have HP : Hid (Pl (W1.alloc (.cells #[.int .i64 p, .int .i64 q, .int .i64 u, .int .i64 v] 49)) D p q u v) := by rw [← hD]; exact Pl.new W1 p q u v _
  replace HS : Hid (Rg B C 5 p q u v c i x r s b o d w (W1.alloc (.cells #[.int .i64 p, .int .i64 q, .int .i64 u, .int .i64 v] 49))) := HS.out.next ((Below.refl _ W1).alloc (Nat.le_refl _) _)
  go_upto_region 5 with (first | refine wpList_load_mid rfl 49 _ rfl B 1 rfl [.int .i64 p, .int .i64 q, .int .i64 u, .int .i64 v] _ hpl Try.underlying49 rfl infoQ ?_)
  try rw [hD]
  obtain ⟨W2, hW2⟩ : ∃ W2, W1.alloc (.cells #[.int .i64 p, .int .i64 q, .int .i64 u, .int .i64 v] 49) = W2 := ⟨_, rfl⟩
  rw [hW2] at HS HP ⊢
  clear hW2 hpl f0 f5 f6 f7 e0 e3 e4 e5 e6 e7 e8
  have f0 := HS.out.f.c0; have f5 := HS.out.f.c5; have f6 := HS.out.f.c6; have f7 := HS.out.f.c7
  have g0 := HP.out.c0; have g1 := HP.out.c1; have g2 := HP.out.c2; have g3 := HP.out.c3
  by_cases e2 : i = 0
  · have d2 : (i != 0) = false := by simpa using e2
    by_cases e4 : q = 0
    · have d4 : (q == 0) = true := by simpa using e4
      by_cases e6 : u = 0
      · have d6 : (u == 0) = true := by simpa using e6
        by_cases e8 : v = 0
        · have d8 : (v == 0) = true := by simpa using e8
          obtain rfl : z = true := by rw [← Z.out]; exact rtF_yes (by omega)
          go_wp2
          go_ret
          exact ⟨rfl, by first | exact HS.out.n | (rw [hB]; exact HS.out.n)⟩
        · have d8 : (v == 0) = false := by simpa using e8
          obtain rfl : z = false := by rw [← Z.out]; exact rtF_no (by omega)
          go_wp2
          go_ret
          exact ⟨rfl, by first | exact HS.out.n | (rw [hB]; exact HS.out.n)⟩
      · have d6 : (u == 0) = false := by simpa using e6
        obtain rfl : z = false := by rw [← Z.out]; exact rtF_no (by omega)
        go_wp2
        go_ret
        exact ⟨rfl, by first | exact HS.out.n | (rw [hB]; exact HS.out.n)⟩
    · have d4 : (q == 0) = false := by simpa using e4
      obtain rfl : z = false := by rw [← Z.out]; exact rtF_no (by omega)
      go_wp2
      go_ret
      exact ⟨rfl, by first | exact HS.out.n | (rw [hB]; exact HS.out.n)⟩
  · have d2 : (i != 0) = true := by simpa using e2
    obtain rfl : z = false := by rw [← Z.out]; exact rtF_no (by omega)
    go_wp2
    go_ret
    exact ⟨rfl, by first | exact HS.out.n | (rw [hB]; exact HS.out.n)⟩
set_option maxRecDepth 100000 in
set_option maxHeartbeats 4000000 in
theorem refRF_6 (p q u v c i x : Int) (r s b o d m n j : Int) (hm : Md m n j) (hr : I64 r) (hb : I64 b) (ho : I64 o) (hd9 : I64 d) (y : Bool) (hy : hd r s b o d p q u v = y) (hY : y = true) (gc0 : 0 ≤ c) (gc1 : c < n) (gi0 : 0 ≤ i) (gi1 : i < 576) (gx0 : 0 ≤ x) (gx1 : x < 256) (w : World) :
    Calls Try.prog 66 #[.agg #[.int .i64 6, .int .i64 p, .int .i64 q, .int .i64 u, .int .i64 v, .int .i64 c, .int .i64 i, .int .i64 x], .agg #[.int .i64 r, .int .i64 s, .int .i64 b, .int .i64 o, .int .i64 d], .int .i64 m] w fun e w' => e = .returned (.bool (rtF n y 6 p q u v c i x)) ∧ Below w.heap.size w w' := by
  subst hY
  obtain ⟨z, Z⟩ : ∃ z, Hid (rtF n true 6 p q u v c i x = z) := ⟨_, rfl⟩
  rw [Z.out]
  have CC : Hid (∀ w : World, Calls Try.prog 52 #[.int .i64 m] w fun e w' => e = .returned (.int .i64 n) ∧ w' = w) := fun w => refChips_any hm w
  have HH : Hid (∀ w : World, Calls Try.prog 43 #[.agg #[.int .i64 r, .int .i64 s, .int .i64 b, .int .i64 o, .int .i64 d], .agg #[.int .i64 p, .int .i64 q, .int .i64 u, .int .i64 v]] w fun e w' => e = .returned (.bool true) ∧ Below w.heap.size w w') := fun w => by rw [← hy]; exact refHolds_any r s b o d p q u v hr hb ho hd9 w
  clear hm hr hb ho hd9 hy
  go_enter Try.func66, Try.ntmps66
  go_upto_region 1 with (fail)
  obtain ⟨B, hB⟩ : ∃ B, w.heap.size = B := ⟨_, rfl⟩
  obtain ⟨C, hC⟩ : ∃ C, B + 1 = C := ⟨_, rfl⟩
  obtain ⟨V, hV⟩ : ∃ V, (w.alloc (.cells #[.int .i64 6, .int .i64 p, .int .i64 q, .int .i64 u, .int .i64 v, .int .i64 c, .int .i64 i, .int .i64 x] 51)).alloc (.cells #[.int .i64 r, .int .i64 s, .int .i64 b, .int .i64 o, .int .i64 d] 30) = V := ⟨_, rfl⟩
  have HS : Hid (Rg B C 6 p q u v c i x r s b o d w V) := by
    rw [← hV, ← hC, ← hB]
    have h1 := Gm.new (w.alloc (.cells #[.int .i64 6, .int .i64 p, .int .i64 q, .int .i64 u, .int .i64 v, .int .i64 c, .int .i64 i, .int .i64 x] 51)) r s b o d 30
    simp only [World.size_alloc] at h1
    exact ⟨(Ft.new w 6 p q u v c i x _).alloc _, h1, ((Below.refl _ w).alloc (Nat.le_refl _) _).alloc (by simp) _, by simp only [World.size_alloc]; omega⟩
  rw [hV, hB, hC]
  clear hV hC
  have f0 := HS.out.f.c0; have f5 := HS.out.f.c5; have f6 := HS.out.f.c6; have f7 := HS.out.f.c7
  go_wp2_with fail
  refine (CC.out _).mono ?_
  rintro e W0 ⟨rfl, rfl⟩
  have e0 : (n == 0) = false := by rw [beq_eq_false_iff_ne]; omega
  have e3 : decide (c < 0) = false := decide_eq_false (by omega)
  have e4 : decide (n ≤ c) = false := decide_eq_false (by omega)
  have e5 : decide (i < 0) = false := decide_eq_false (by omega)
  have e6 : decide (575 < i) = false := decide_eq_false (by omega)
  have e7 : decide (x < 0) = false := decide_eq_false (by omega)
  have e8 : decide (255 < x) = false := decide_eq_false (by omega)
  go_wp2_with (first | refine wpList_load_g (by rfl) 30 _ rfl C 0 rfl [.int .i64 r, .int .i64 s, .int .i64 b, .int .i64 o, .int .i64 d] _ (by exact Bk.range HS.out.g) Try.underlying30 rfl infoRG ?_ | refine wpList_load_g (by rfl) 49 _ rfl B 1 rfl [.int .i64 p, .int .i64 q, .int .i64 u, .int .i64 v] _ (by exact HS.out.f.place) Try.underlying49 rfl infoQ ?_)
  refine (HH.out _).mono ?_
  rintro e W1 ⟨rfl, b1⟩
  replace HS : Hid (Rg B C 6 p q u v c i x r s b o d w W1) := HS.out.next b1
  clear f0 f5 f6 f7 b1
  have f0 := HS.out.f.c0; have f5 := HS.out.f.c5; have f6 := HS.out.f.c6; have f7 := HS.out.f.c7
  have hpl := HS.out.f.place
  obtain ⟨D, hD⟩ : ∃ D, W1.heap.size = D := ⟨_, rfl⟩
  have HP : Hid (Pl (W1.alloc (.cells #[.int .i64 p, .int .i64 q, .int .i64 u, .int .i64 v] 49)) D p q u v) := by rw [← hD]; exact Pl.new W1 p q u v _
  replace HS : Hid (Rg B C 6 p q u v c i x r s b o d w (W1.alloc (.cells #[.int .i64 p, .int .i64 q, .int .i64 u, .int .i64 v] 49))) := HS.out.next ((Below.refl _ W1).alloc (Nat.le_refl _) _)
  go_upto_region 5 with (first | refine wpList_load_mid rfl 49 _ rfl B 1 rfl [.int .i64 p, .int .i64 q, .int .i64 u, .int .i64 v] _ hpl Try.underlying49 rfl infoQ ?_)
  try rw [hD]
  obtain ⟨W2, hW2⟩ : ∃ W2, W1.alloc (.cells #[.int .i64 p, .int .i64 q, .int .i64 u, .int .i64 v] 49) = W2 := ⟨_, rfl⟩
  rw [hW2] at HS HP ⊢
  clear hW2 hpl f0 f5 f6 f7 e0 e3 e4 e5 e6 e7 e8
  have f0 := HS.out.f.c0; have f5 := HS.out.f.c5; have f6 := HS.out.f.c6; have f7 := HS.out.f.c7
  have g0 := HP.out.c0; have g1 := HP.out.c1; have g2 := HP.out.c2; have g3 := HP.out.c3
  by_cases e2 : i = 0
  · have d2 : (i != 0) = false := by simpa using e2
    by_cases e4 : c = 0
    · have d4 : (c != 0) = false := by simpa using e4
      by_cases e6 : x = 0
      · have d6 : (x != 0) = false := by simpa using e6
        obtain rfl : z = true := by rw [← Z.out]; exact rtF_yes (by omega)
        go_wp2
        go_ret
        exact ⟨rfl, by first | exact HS.out.n | (rw [hB]; exact HS.out.n)⟩
      · have d6 : (x != 0) = true := by simpa using e6
        obtain rfl : z = false := by rw [← Z.out]; exact rtF_no (by omega)
        go_wp2
        go_ret
        exact ⟨rfl, by first | exact HS.out.n | (rw [hB]; exact HS.out.n)⟩
    · have d4 : (c != 0) = true := by simpa using e4
      obtain rfl : z = false := by rw [← Z.out]; exact rtF_no (by omega)
      go_wp2
      go_ret
      exact ⟨rfl, by first | exact HS.out.n | (rw [hB]; exact HS.out.n)⟩
  · have d2 : (i != 0) = true := by simpa using e2
    obtain rfl : z = false := by rw [← Z.out]; exact rtF_no (by omega)
    go_wp2
    go_ret
    exact ⟨rfl, by first | exact HS.out.n | (rw [hB]; exact HS.out.n)⟩
set_option maxRecDepth 100000 in
set_option maxHeartbeats 4000000 in
theorem refRF_7 (p q u v c i x : Int) (r s b o d m n j : Int) (hm : Md m n j) (hr : I64 r) (hb : I64 b) (ho : I64 o) (hd9 : I64 d) (y : Bool) (hy : hd r s b o d p q u v = y) (hY : y = true) (gc0 : 0 ≤ c) (gc1 : c < n) (gi0 : 0 ≤ i) (gi1 : i < 576) (gx0 : 0 ≤ x) (gx1 : x < 256) (w : World) :
    Calls Try.prog 66 #[.agg #[.int .i64 7, .int .i64 p, .int .i64 q, .int .i64 u, .int .i64 v, .int .i64 c, .int .i64 i, .int .i64 x], .agg #[.int .i64 r, .int .i64 s, .int .i64 b, .int .i64 o, .int .i64 d], .int .i64 m] w fun e w' => e = .returned (.bool (rtF n y 7 p q u v c i x)) ∧ Below w.heap.size w w' := by
  subst hY
  obtain ⟨z, Z⟩ : ∃ z, Hid (rtF n true 7 p q u v c i x = z) := ⟨_, rfl⟩
  rw [Z.out]
  have CC : Hid (∀ w : World, Calls Try.prog 52 #[.int .i64 m] w fun e w' => e = .returned (.int .i64 n) ∧ w' = w) := fun w => refChips_any hm w
  have HH : Hid (∀ w : World, Calls Try.prog 43 #[.agg #[.int .i64 r, .int .i64 s, .int .i64 b, .int .i64 o, .int .i64 d], .agg #[.int .i64 p, .int .i64 q, .int .i64 u, .int .i64 v]] w fun e w' => e = .returned (.bool true) ∧ Below w.heap.size w w') := fun w => by rw [← hy]; exact refHolds_any r s b o d p q u v hr hb ho hd9 w
  clear hm hr hb ho hd9 hy
  go_enter Try.func66, Try.ntmps66
  go_upto_region 1 with (fail)
  obtain ⟨B, hB⟩ : ∃ B, w.heap.size = B := ⟨_, rfl⟩
  obtain ⟨C, hC⟩ : ∃ C, B + 1 = C := ⟨_, rfl⟩
  obtain ⟨V, hV⟩ : ∃ V, (w.alloc (.cells #[.int .i64 7, .int .i64 p, .int .i64 q, .int .i64 u, .int .i64 v, .int .i64 c, .int .i64 i, .int .i64 x] 51)).alloc (.cells #[.int .i64 r, .int .i64 s, .int .i64 b, .int .i64 o, .int .i64 d] 30) = V := ⟨_, rfl⟩
  have HS : Hid (Rg B C 7 p q u v c i x r s b o d w V) := by
    rw [← hV, ← hC, ← hB]
    have h1 := Gm.new (w.alloc (.cells #[.int .i64 7, .int .i64 p, .int .i64 q, .int .i64 u, .int .i64 v, .int .i64 c, .int .i64 i, .int .i64 x] 51)) r s b o d 30
    simp only [World.size_alloc] at h1
    exact ⟨(Ft.new w 7 p q u v c i x _).alloc _, h1, ((Below.refl _ w).alloc (Nat.le_refl _) _).alloc (by simp) _, by simp only [World.size_alloc]; omega⟩
  rw [hV, hB, hC]
  clear hV hC
  have f0 := HS.out.f.c0; have f5 := HS.out.f.c5; have f6 := HS.out.f.c6; have f7 := HS.out.f.c7
  go_wp2_with fail
  refine (CC.out _).mono ?_
  rintro e W0 ⟨rfl, rfl⟩
  have e0 : (n == 0) = false := by rw [beq_eq_false_iff_ne]; omega
  have e3 : decide (c < 0) = false := decide_eq_false (by omega)
  have e4 : decide (n ≤ c) = false := decide_eq_false (by omega)
  have e5 : decide (i < 0) = false := decide_eq_false (by omega)
  have e6 : decide (575 < i) = false := decide_eq_false (by omega)
  have e7 : decide (x < 0) = false := decide_eq_false (by omega)
  have e8 : decide (255 < x) = false := decide_eq_false (by omega)
  go_wp2_with (first | refine wpList_load_g (by rfl) 30 _ rfl C 0 rfl [.int .i64 r, .int .i64 s, .int .i64 b, .int .i64 o, .int .i64 d] _ (by exact Bk.range HS.out.g) Try.underlying30 rfl infoRG ?_ | refine wpList_load_g (by rfl) 49 _ rfl B 1 rfl [.int .i64 p, .int .i64 q, .int .i64 u, .int .i64 v] _ (by exact HS.out.f.place) Try.underlying49 rfl infoQ ?_)
  refine (HH.out _).mono ?_
  rintro e W1 ⟨rfl, b1⟩
  replace HS : Hid (Rg B C 7 p q u v c i x r s b o d w W1) := HS.out.next b1
  clear f0 f5 f6 f7 b1
  have f0 := HS.out.f.c0; have f5 := HS.out.f.c5; have f6 := HS.out.f.c6; have f7 := HS.out.f.c7
  have hpl := HS.out.f.place
  obtain ⟨D, hD⟩ : ∃ D, W1.heap.size = D := ⟨_, rfl⟩
  have HP : Hid (Pl (W1.alloc (.cells #[.int .i64 p, .int .i64 q, .int .i64 u, .int .i64 v] 49)) D p q u v) := by rw [← hD]; exact Pl.new W1 p q u v _
  replace HS : Hid (Rg B C 7 p q u v c i x r s b o d w (W1.alloc (.cells #[.int .i64 p, .int .i64 q, .int .i64 u, .int .i64 v] 49))) := HS.out.next ((Below.refl _ W1).alloc (Nat.le_refl _) _)
  go_upto_region 5 with (first | refine wpList_load_mid rfl 49 _ rfl B 1 rfl [.int .i64 p, .int .i64 q, .int .i64 u, .int .i64 v] _ hpl Try.underlying49 rfl infoQ ?_)
  try rw [hD]
  obtain ⟨W2, hW2⟩ : ∃ W2, W1.alloc (.cells #[.int .i64 p, .int .i64 q, .int .i64 u, .int .i64 v] 49) = W2 := ⟨_, rfl⟩
  rw [hW2] at HS HP ⊢
  clear hW2 hpl f0 f5 f6 f7 e0 e3 e4 e5 e6 e7 e8
  have f0 := HS.out.f.c0; have f5 := HS.out.f.c5; have f6 := HS.out.f.c6; have f7 := HS.out.f.c7
  have g0 := HP.out.c0; have g1 := HP.out.c1; have g2 := HP.out.c2; have g3 := HP.out.c3
  clear g0 g1 g2 g3
  by_cases e2 : i = 0
  · have d2 : (i != 0) = false := by simpa using e2
    by_cases e4 : c = 0
    · have d4 : (c != 0) = false := by simpa using e4
      by_cases e6 : x = 0
      · have d6 : (x != 0) = false := by simpa using e6
        have hE : ∀ w, (binOp .eql 49 (.agg #[.int .i64 p, .int .i64 q, .int .i64 u, .int .i64 v]) (.agg #[.int .i64 0, .int .i64 0, .int .i64 0, .int .i64 0])).run Try.prog w = .ok (.bool z) w := fun w => by
          have e1 : z = decide (p = 0 ∧ q = 0 ∧ u = 0 ∧ v = 0) := by
            rw [← Z.out, Bool.eq_iff_iff, rtF_iff, decide_eq_true_eq]
            constructor
            · intro h; have := h.2; omega
            · intro h; exact ⟨rfl, by omega⟩
          rw [e1]; exact eqQ_eql p q u v 0 0 0 0 w
        have gd := eqQ_gd
        go_wp2_with (first | refine wpList_load_g (by rfl) 49 _ rfl D 0 rfl [.int .i64 p, .int .i64 q, .int .i64 u, .int .i64 v] _ (by exact HP.out.range) Try.underlying49 rfl infoQ ?_)
        go_ret
        exact ⟨rfl, by first | exact HS.out.n | (rw [hB]; exact HS.out.n)⟩
      · have d6 : (x != 0) = true := by simpa using e6
        obtain rfl : z = false := by rw [← Z.out]; exact rtF_no (by omega)
        go_wp2
        go_ret
        exact ⟨rfl, by first | exact HS.out.n | (rw [hB]; exact HS.out.n)⟩
    · have d4 : (c != 0) = true := by simpa using e4
      obtain rfl : z = false := by rw [← Z.out]; exact rtF_no (by omega)
      go_wp2
      go_ret
      exact ⟨rfl, by first | exact HS.out.n | (rw [hB]; exact HS.out.n)⟩
  · have d2 : (i != 0) = true := by simpa using e2
    obtain rfl : z = false := by rw [← Z.out]; exact rtF_no (by omega)
    go_wp2
    go_ret
    exact ⟨rfl, by first | exact HS.out.n | (rw [hB]; exact HS.out.n)⟩
theorem refRF_any (k p q u v c i x : Int) (r s b o d m n j : Int) (hm : Md m n j) (hr : I64 r) (hb : I64 b) (ho : I64 o) (hd9 : I64 d) (w : World) :
    Calls Try.prog 66 #[.agg #[.int .i64 k, .int .i64 p, .int .i64 q, .int .i64 u, .int .i64 v, .int .i64 c, .int .i64 i, .int .i64 x], .agg #[.int .i64 r, .int .i64 s, .int .i64 b, .int .i64 o, .int .i64 d], .int .i64 m] w fun e w' => e = .returned (.bool (rtF n (hd r s b o d p q u v) k p q u v c i x)) ∧ Below w.heap.size w w' := by
  obtain ⟨y, hy⟩ : ∃ y, hd r s b o d p q u v = y := ⟨_, rfl⟩
  rw [hy]
  by_cases h : y = true ∧ 1 ≤ k ∧ k ≤ 7 ∧ 0 ≤ c ∧ c < n ∧ 0 ≤ i ∧ i < 576 ∧ 0 ≤ x ∧ x < 256
  · obtain ⟨h0, h1, h2, h3, h4, h5, h6, h7, h8⟩ := h
    rcases (show k = 1 ∨ k = 2 ∨ k = 3 ∨ k = 4 ∨ k = 5 ∨ k = 6 ∨ k = 7 by omega) with rfl | rfl | rfl | rfl | rfl | rfl | rfl
    · exact refRF_1 p q u v c i x r s b o d m n j hm hr hb ho hd9 y hy h0 h3 h4 h5 h6 h7 h8 w
    · exact refRF_2 p q u v c i x r s b o d m n j hm hr hb ho hd9 y hy h0 h3 h4 h5 h6 h7 h8 w
    · exact refRF_3 p q u v c i x r s b o d m n j hm hr hb ho hd9 y hy h0 h3 h4 h5 h6 h7 h8 w
    · exact refRF_4 p q u v c i x r s b o d m n j hm hr hb ho hd9 y hy h0 h3 h4 h5 h6 h7 h8 w
    · exact refRF_5 p q u v c i x r s b o d m n j hm hr hb ho hd9 y hy h0 h3 h4 h5 h6 h7 h8 w
    · exact refRF_6 p q u v c i x r s b o d m n j hm hr hb ho hd9 y hy h0 h3 h4 h5 h6 h7 h8 w
    · exact refRF_7 p q u v c i x r s b o d m n j hm hr hb ho hd9 y hy h0 h3 h4 h5 h6 h7 h8 w
  · have h9 : y = false ∨ ¬ (1 ≤ k ∧ k ≤ 7 ∧ 0 ≤ c ∧ c < n ∧ 0 ≤ i ∧ i < 576 ∧ 0 ≤ x ∧ x < 256) := by
      cases y
      · exact .inl rfl
      · exact .inr fun g => h ⟨rfl, g⟩
    have e : rtF n y k p q u v c i x = false := by
      rcases h9 with rfl | h9
      · exact rtF_out
      · exact rtF_no fun g => h9 (by omega)
    rw [e]
    exact refRF_bad k p q u v c i x r s b o d m n j hm hr hb ho hd9 y hy h9 w
end Go.Proofs.Ytcpjmfemgdgplaa

/-
  Structs of integers of one kind, nested or not, and slices of such, as arguments: what a row's condition tells of them.
-/
namespace Go.Proofs.Ytcpjmfemgdgplaa
open Go.ChangeShapes Go.WideShapes Go.ChangeAt Go.RowKit

/-- every cell of the type is an integer of the kind k -/
def flatB (P : Program) (k : IntKind) : Nat → TypeId → Bool
  | 0, _ => false
  | d + 1, t => match P.underlying t with
    | some (.int k') => decide (k' = k) && decide (P.cellsOf t = 1)
    | some (.struct fs) => ((List.range (P.cellsOf t)).all fun j => fs.toList.any fun f => decide (f.offset ≤ j) && decide (j < f.offset + P.cellsOf f.type)) && fs.toList.all fun f => flatB P k d f.type
    | _ => false
section
variable {H : Type} {enc : TypeId × Value → H} {P : Program} {w : World} {base : Nat} {spare : Nat → Bool} {held : Bool}

theorem flat_cells {k : IntKind} : ∀ (d : Nat) (t : TypeId), flatB P k d t = true → ∀ {fuel : Nat} {cs : List Value} {x : DataW H × List MemPlace}, DataW.trod enc P w base spare held fuel t cs = some x →
    cs.length = P.cellsOf t ∧ ∀ v ∈ cs, ∃ z : Int, v = .int k z ∧ (Lit.int k z).wf = true
  | 0, _, h, _, _, _, _ => by cases h
  | d + 1, t, h, fuel, cs, x, hx => by
    unfold flatB at h
    split at h
    · rename_i k' hu
      simp only [Bool.and_eq_true, decide_eq_true_eq] at h
      obtain ⟨rfl, h1⟩ := h
      obtain ⟨z, rfl, _, hw⟩ := DataW.trod_int hu hx
      exact ⟨by rw [h1]; rfl, fun v hv => ⟨z, by simpa using hv, hw⟩⟩
    · rename_i fs hu
      simp only [Bool.and_eq_true, List.all_eq_true, List.any_eq_true, decide_eq_true_eq] at h
      obtain ⟨hc, hf⟩ := h
      obtain ⟨xs, n, _, _, hl, hxs, hel⟩ := DataW.trod_struct hu hx
      refine ⟨hl, fun v hv => ?_⟩
      obtain ⟨j, hj⟩ := List.mem_iff_getElem?.1 hv
      have hjl : j < P.cellsOf t := by rw [← hl]; exact (List.getElem?_eq_some_iff.1 hj).1
      obtain ⟨f, hfm, h1, h2⟩ := hc j (List.mem_range.2 hjl)
      obtain ⟨i, hi⟩ := List.mem_iff_getElem?.1 hfm
      have hi' : fs[i]? = some f := by simpa using hi
      have hxi := hel i f hi'
      have hil : i < xs.length := by rw [hxs]; exact (Array.getElem?_eq_some_iff.1 hi').1
      rw [List.getElem?_eq_getElem hil] at hxi
      obtain ⟨_, hall⟩ := flat_cells d f.type (hf f hfm) hxi
      refine hall v (List.mem_iff_getElem?.2 ⟨j - f.offset, ?_⟩)
      rw [List.getElem?_take, if_pos (by omega), List.getElem?_drop, show f.offset + (j - f.offset) = j by omega]
      exact hj
    · cases h
/-- a list of integers, by a function -/
theorem flat_ints {k : IntKind} {n : Nat} {cs : List Value} (hl : cs.length = n) (h : ∀ v ∈ cs, ∃ z : Int, v = .int k z ∧ (Lit.int k z).wf = true) : ∃ F : Nat → Int, cs = ints k n F ∧ ∀ i, i < n → (Lit.int k (F i)).wf = true := by
  obtain ⟨F, hF⟩ := Go.Deep.choose_lt (α := Int) (n := n) (p := fun i z => cs[i]? = some (.int k z) ∧ (Lit.int k z).wf = true) fun i hi => by
    obtain ⟨z, hz, hw⟩ := h cs[i] (List.getElem_mem (by omega))
    exact ⟨z, by rw [List.getElem?_eq_getElem (by omega), hz], hw⟩
  refine ⟨F, List.ext_getElem? fun i => ?_, fun i hi => (hF i hi).2⟩
  by_cases hi : i < n
  · rw [(hF i hi).1, ints_at k n F i hi]
  · rw [List.getElem?_eq_none (by omega), List.getElem?_eq_none (by rw [ints_len]; omega)]
theorem open_flat {t : TypeId} {k : IntKind} {r : Reach} {b0 n : Nat} {fs : Array Field} {v : Value} {d : DataW H} {ps : List MemPlace} (ht : P.underlying t = some (.struct fs)) (hf : flatB P k 8 t = true) (hct : P.cellsOf t = n)
    (hval : Value.okWide P w r b0 t v) (hd : DataW.Trod enc P w base spare held t v d ps) :
    ∃ F : Nat → Int, v = .agg (ints k n F).toArray ∧ ∀ i, i < n → (Lit.int k (F i)).wf = true := by
  obtain ⟨cs, rfl⟩ : ∃ cs, v = .agg cs := by
    simp only [Value.okWide, ht] at hval
    obtain ⟨cs, h1, _⟩ := hval
    exact ⟨cs, h1⟩
  obtain ⟨fuel, hx⟩ := hd
  obtain ⟨hl, hall⟩ := flat_cells 8 t hf hx
  obtain ⟨F, hF, hw⟩ := flat_ints (k := k) (n := n) (cs := cs.toList) (by rw [← hct, ← hl]; simp [Value.cells]) (by simpa [Value.cells] using hall)
  exact ⟨F, by rw [← hF], hw⟩

/-- a slice of structs of s integers each -/
def IsFlat (k : IntKind) (s : Nat) (w : World) (a : Option Addr) (len cap : Nat) (Z : Nat → Nat → Int) : Prop :=
  (a = none ∧ len = 0 ∧ cap = 0) ∨
  ∃ x, a = some x ∧ len ≤ cap ∧ cap ≤ maxLen ∧ ∀ i, i < cap → ∀ j, j < s → w.cell? (x.add (i * s + j)) = some (.int k (Z i j)) ∧ (Lit.int k (Z i j)).wf = true
theorem open_flats {t e : TypeId} {k : IntKind} {s : Nat} {a : Option Addr} {len cap : Nat} {d : DataW H} {ps : List MemPlace} (ht : P.underlying t = some (.slice e)) (hf : flatB P k 8 e = true) (hct : P.cellsOf e = s) (hs : spare = fun _ => true)
    (hd : DataW.Trod enc P w base spare held t (.slice a len cap) d ps) : ∃ Z, IsFlat k s w a len cap Z := by
  obtain ⟨fuel, hx⟩ := hd
  rcases Go.Deep.open_slice ht hx with ⟨h, _⟩ | ⟨x, l, c, m, n, D, Pl, h, _, hl, hm, hmm, _, hel⟩
  · simp [Value.cells] at h
    obtain ⟨rfl, rfl, rfl⟩ := h
    exact ⟨fun _ _ => 0, .inl ⟨rfl, rfl, rfl⟩⟩
  · simp [Value.cells] at h
    obtain ⟨rfl, rfl, rfl⟩ := h
    obtain rfl : m = cap := by rw [hmm, hs]; rfl
    obtain ⟨Z, hZ⟩ := Go.Deep.choose_lt (α := Nat → Int) (n := m) (p := fun i F => ∀ j, j < s → w.cell? (x.add (i * s + j)) = some (.int k (F j)) ∧ (Lit.int k (F j)).wf = true) fun i hi => by
      obtain ⟨cs, hcs, htr⟩ := hel i hi
      obtain ⟨hlen, hall⟩ := flat_cells 8 e hf htr
      obtain ⟨F, hF, hw⟩ := flat_ints (k := k) (n := s) (by rw [← hct]; exact hlen) hall
      refine ⟨F, fun j hj => ⟨?_, hw j hj⟩⟩
      have hc := (World.cells?_some hcs).2.2 j (by rw [hct]; exact hj)
      rw [Go.Deep.add_add, hct] at hc
      rw [hc, hF, ints_at k s F j hj]
    exact ⟨Z, .inr ⟨x, rfl, hl, hm, hZ⟩⟩
end
end Go.Proofs.Ytcpjmfemgdgplaa

/-
  The walks of package fault: what is read with some faults.
-/
namespace Go.Proofs.Ytcpjmfemgdgplaa
open Go.RowKit Go.Shelf
attribute [local go_sem] Oper.semAt_some

/-- what is read with the first faults of some -/
def ovF (n : Int) (Z : Nat → Nat → Int) (p' q' u' v' : Int) (F : Nat → Int) : Nat → (Nat → Int)
  | 0 => F
  | s + 1 => apF n (Z s 0) (Z s 1) (Z s 2) (Z s 3) (Z s 4) (Z s 5) (Z s 6) (Z s 7) p' q' u' v' (ovF n Z p' q' u' v' F s)
theorem ovF_byt (n : Int) (Z : Nat → Nat → Int) (p' q' u' v' : Int) (F : Nat → Int) (hF : Byts 72 F) : ∀ s, Byts 72 (ovF n Z p' q' u' v' F s)
  | 0 => hF
  | s + 1 => apF_byt _ _ _ _ _ _ _ _ _ _ _ _ _ _ (ovF_byt n Z p' q' u' v' F hF s)
/-- faults in a slice: at an address, or none -/
structure Fs (W : World) (a : Option Addr) (len cap : Nat) (Z : Nat → Nat → Int) : Prop where
  le : len ≤ cap
  cm : cap ≤ maxLen
  at_ : 0 < len → ∃ b o, a = some ⟨b, o, none⟩ ∧ b < W.heap.size ∧ ∀ i, i < len → ∀ j, j < 8 → W.cell? ⟨b, o + (i * 8 + j), none⟩ = some (.int .i64 (Z i j))
  wf : ∀ i, i < len → ∀ j, j < 8 → (Lit.int .i64 (Z i j)).wf = true
  nil : a = none → len = 0 ∧ cap = 0
theorem IsFlat.fs {W : World} {a : Option Addr} {len cap : Nat} {Z : Nat → Nat → Int} (h : IsFlat .i64 8 W a len cap Z) : Fs W a len cap Z := by
  rcases h with ⟨rfl, rfl, rfl⟩ | ⟨x, rfl, hl, hm, hc⟩
  · exact ⟨Nat.le_refl _, Nat.zero_le _, fun h => absurd h (by omega), fun i hi => absurd hi (by omega), fun _ => ⟨rfl, rfl⟩⟩
  · refine ⟨hl, hm, fun h0 => ?_, fun i hi j hj => (hc i (by omega) j hj).2, fun e => by cases e⟩
    obtain ⟨b, off, spot⟩ := x
    have h1 := (hc 0 (by omega) 0 (by omega)).1
    obtain rfl : spot = none := by simpa [Addr.add] using World.cell?_spot h1
    refine ⟨b, off, rfl, ?_, fun i hi j hj => ?_⟩
    · by_cases hb : b < W.heap.size
      · exact hb
      · have : W.heap[b]? = none := Array.getElem?_eq_none (by omega)
        simp [World.cell?, Addr.add, this] at h1
    · have := (hc i (by omega) j hj).1
      rwa [Addr.add_lit] at this
theorem Fs.below {W W' : World} {a : Option Addr} {len cap : Nat} {Z : Nat → Nat → Int} (h : Fs W a len cap Z) (e : Below W.heap.size W W') : Fs W' a len cap Z :=
  ⟨h.le, h.cm, fun h0 => (h.at_ h0).elim fun b hb => hb.elim fun o ⟨h1, h2, h3⟩ => ⟨b, o, h1, Nat.lt_of_lt_of_le h2 e.size, fun i hi j hj => (e.cell (p := ⟨b, o + (i * 8 + j), none⟩) h2).trans (h3 i hi j hj)⟩, h.wf, h.nil⟩
/-- one of them, as a list -/
theorem fs_range {W : World} {b o len : Nat} {Z : Nat → Nat → Int} (h : ∀ i, i < len → ∀ j, j < 8 → W.cell? ⟨b, o + (i * 8 + j), none⟩ = some (.int .i64 (Z i j))) (s : Nat) (hs : s < len) : W.rangeAt b (o + s * 8) [.int .i64 (Z s 0), .int .i64 (Z s 1), .int .i64 (Z s 2), .int .i64 (Z s 3), .int .i64 (Z s 4), .int .i64 (Z s 5), .int .i64 (Z s 6), .int .i64 (Z s 7)] := by
  intro j y hy
  have hl : j < 8 := by
    have := (List.getElem?_eq_some_iff.1 hy).1
    simpa using this
  have h1 := h s hs j hl
  rw [← Nat.add_assoc] at h1
  rw [h1, ← hy]
  rcases (show j = 0 ∨ j = 1 ∨ j = 2 ∨ j = 3 ∨ j = 4 ∨ j = 5 ∨ j = 6 ∨ j = 7 by omega) with rfl | rfl | rfl | rfl | rfl | rfl | rfl | rfl <;> rfl
/-- between two rounds of Overlay -/
structure OvS (B C D : Nat) (p' q' u' v' : Int) (X : Nat → Int) (w W : World) : Prop where
  g : Pl W B p' q' u' v'
  r : Bk .u8 W C 72 X
  e : Bk .u8 W D 72 fun _ => 0
  n : Below B w W
theorem OvS.next {B C D : Nat} {p' q' u' v' : Int} {X : Nat → Int} {w W W' : World} (h : OvS B C D p' q' u' v' X w W) (e : Below W.heap.size W W') : OvS B C D p' q' u' v' X w W' :=
  ⟨h.g.next e, h.r.next e, h.e.next e, h.n.trans (e.mono (Nat.le_of_lt h.g.lt))⟩
theorem OvS.put {B C D : Nat} {p' q' u' v' : Int} {X : Nat → Int} {w W : World} (h : OvS B C D p' q' u' v' X w W) (hC : B < C) (hD : C < D) (Y : Nat → Int) : OvS B C D p' q' u' v' Y w (W.setCells C 0 (ints .u8 72 Y)) :=
  ⟨Bk.putOther h.g (by omega) 0 _, Bk.put h.r Y, Bk.putOther h.e (by omega) 0 _, belows_put (by omega) _ 0 h.n⟩
set_option maxRecDepth 100000 in
set_option maxHeartbeats 4000000 in
theorem overlay_any (a : Option Addr) (len cap : Nat) (Z : Nat → Nat → Int) (p' q' u' v' : Int) (F : Nat → Int) (hF : Byts 72 F) (m n j : Int) (hm : Md m n j) (w : World) (hs : Fs w a len cap Z) :
    Calls Try.prog 70 #[.slice a len cap, .int .i64 m, .agg #[.int .i64 p', .int .i64 q', .int .i64 u', .int .i64 v'], .agg (ints .u8 72 F).toArray] w fun e w' => e = .returned (.agg (ints .u8 72 (ovF n Z p' q' u' v' F len)).toArray) ∧ Below w.heap.size w w' := by
  have hlm : len ≤ maxLen := Nat.le_trans hs.le hs.cm
  unfold maxLen at hlm
  have HA : Hid (∀ s, s < len → ∀ w : World, Calls Try.prog 32 #[.agg #[.int .i64 (Z s 0), .int .i64 (Z s 1), .int .i64 (Z s 2), .int .i64 (Z s 3), .int .i64 (Z s 4), .int .i64 (Z s 5), .int .i64 (Z s 6), .int .i64 (Z s 7)], .int .i64 m, .agg #[.int .i64 p', .int .i64 q', .int .i64 u', .int .i64 v'], .agg (ints .u8 72 (ovF n Z p' q' u' v' F s)).toArray] w fun e w' => e = .returned (.agg (ints .u8 72 (ovF n Z p' q' u' v' F (s + 1))).toArray) ∧ Below w.heap.size w w') := fun s h w =>
    apply_any (Z s 0) (Z s 1) (Z s 2) (Z s 3) (Z s 4) (Z s 5) (Z s 6) (Z s 7) p' q' u' v' _ (ovF_byt n Z p' q' u' v' F hF s) m n j hm (bounds_i64 (hs.wf s h 6 (by omega))).2 w
  have HR : Hid (0 < len → ∃ b o, a = some ⟨b, o, none⟩ ∧ ∀ W, Below w.heap.size w W → ∀ s, s < len → W.rangeAt b (o + s * 8) [.int .i64 (Z s 0), .int .i64 (Z s 1), .int .i64 (Z s 2), .int .i64 (Z s 3), .int .i64 (Z s 4), .int .i64 (Z s 5), .int .i64 (Z s 6), .int .i64 (Z s 7)]) := fun h0 => by
    obtain ⟨b, o, h1, h2, h3⟩ := hs.at_ h0
    refine ⟨b, o, h1, fun W hW s hs => fs_range (fun i hi j hj => ?_) s hs⟩
    exact (hW.cell (p := ⟨b, o + (i * 8 + j), none⟩) h2).trans (h3 i hi j hj)
  clear hs hm hF
  have hz := zeroR
  obtain ⟨L, hL⟩ : ∃ L, ints .u8 72 F = L := ⟨_, rfl⟩
  obtain ⟨T, hT⟩ : ∃ Z, (ints .u8 72 fun _ => 0).toArray = Z := ⟨_, rfl⟩
  rw [hL]
  rw [hT] at hz
  go_enter Try.func70, Try.ntmps70
  go_upto_region 1 with (fail)
  obtain ⟨B, hB⟩ : ∃ B, w.heap.size = B := ⟨_, rfl⟩
  obtain ⟨C, hC⟩ : ∃ C, B + 1 = C := ⟨_, rfl⟩
  obtain ⟨D, hD⟩ : ∃ D, C + 1 = D := ⟨_, rfl⟩
  obtain ⟨V, hV⟩ : ∃ V, ((w.alloc (.cells #[.int .i64 p', .int .i64 q', .int .i64 u', .int .i64 v'] 36)).alloc (.cells L.toArray 40)).alloc (.cells T 40) = V := ⟨_, rfl⟩
  have HS : Hid (OvS B C D p' q' u' v' (ovF n Z p' q' u' v' F 0) w V) := by
    have a1 := Bk.new .u8 (w.alloc (.cells #[.int .i64 p', .int .i64 q', .int .i64 u', .int .i64 v'] 36)) 72 F 40
    have a2 := Bk.new .u8 ((w.alloc (.cells #[.int .i64 p', .int .i64 q', .int .i64 u', .int .i64 v'] 36)).alloc (.cells L.toArray 40)) 72 (fun _ => 0) 40
    rw [hL] at a1
    rw [hT] at a2
    simp only [World.size_alloc] at a1 a2
    rw [← hV, ← hD, ← hC, ← hB]
    exact ⟨((Pl.new w p' q' u' v' _).alloc _).alloc _, a1.alloc _, a2, (((Below.refl _ w).alloc (Nat.le_refl _) _).alloc (by simp) _).alloc (by simp; omega) _⟩
  rw [hB] at HR
  have oC : B < C := by omega
  have oD : C < D := by omega
  rw [hV, hB, hC, hD]
  clear hV hC hD hL hz hT
  go_wp2
  go_loopw [13] (fun i wr => ∃ s : Nat, s ≤ len ∧ i = .int .i64 (s : Int) ∧ Hid (OvS B C D p' q' u' v' (ovF n Z p' q' u' v' F s) w wr)) (fun i _ => len - (intOf i).toNat)
  case atStart => exact ⟨0, by omega, rfl, HS⟩
  case round =>
    clear HS
    obtain ⟨s, hs, rfl, HS⟩ := hrel
    by_cases hlt : s < len
    · obtain ⟨b, o, rfl, HQ⟩ := HR.out (by omega)
      have hr := HQ wr HS.out.n s hlt
      have CA := HA.out s hlt
      obtain ⟨X, hX⟩ : ∃ X, ovF n Z p' q' u' v' F s = X := ⟨_, rfl⟩
      obtain ⟨Y, hY⟩ : ∃ Y, ovF n Z p' q' u' v' F (s + 1) = Y := ⟨_, rfl⟩
      rw [hX] at HS
      rw [hX, hY] at CA
      clear HQ HA hX
      obtain ⟨M, hM⟩ : ∃ M, ints .u8 72 Y = M := ⟨_, rfl⟩
      obtain ⟨L, hL⟩ : ∃ L, ints .u8 72 X = L := ⟨_, rfl⟩
      have i0 : (Try.prog.info? 40).map (·.size) = some L.length := by rw [← hL, ints_len]; exact infoR
      have i1 : (Try.prog.info? 40).map (·.size) = some M.length := by rw [← hM, ints_len]; exact infoR
      have j9 : (Try.prog.info? 40).map (·.size) = some M.toArray.size := by simpa using i1
      have one1 : M.toArray.all (·.oneCell') = true := by rw [← hM]; exact ints_one .u8 72 Y
      rw [hL, hM] at CA
      have CB : Hid (∀ w : World, Calls Try.prog 32 #[.agg #[.int .i64 (Z s 0), .int .i64 (Z s 1), .int .i64 (Z s 2), .int .i64 (Z s 3), .int .i64 (Z s 4), .int .i64 (Z s 5), .int .i64 (Z s 6), .int .i64 (Z s 7)], .int .i64 m, .agg #[.int .i64 p', .int .i64 q', .int .i64 u', .int .i64 v'], .agg L.toArray] w fun e w' => e = .returned (.agg M.toArray) ∧ Below w.heap.size w w') := CA
      clear CA
      obtain ⟨z0, hz0⟩ : ∃ y, Z s 0 = y := ⟨_, rfl⟩
      obtain ⟨z1, hz1⟩ : ∃ y, Z s 1 = y := ⟨_, rfl⟩
      obtain ⟨z2, hz2⟩ : ∃ y, Z s 2 = y := ⟨_, rfl⟩
      obtain ⟨z3, hz3⟩ : ∃ y, Z s 3 = y := ⟨_, rfl⟩
      obtain ⟨z4, hz4⟩ : ∃ y, Z s 4 = y := ⟨_, rfl⟩
      obtain ⟨z5, hz5⟩ : ∃ y, Z s 5 = y := ⟨_, rfl⟩
      obtain ⟨z6, hz6⟩ : ∃ y, Z s 6 = y := ⟨_, rfl⟩
      obtain ⟨z7, hz7⟩ : ∃ y, Z s 7 = y := ⟨_, rfl⟩
      rw [hz0, hz1, hz2, hz3, hz4, hz5, hz6, hz7] at CB hr
      clear hz0 hz1 hz2 hz3 hz4 hz5 hz6 hz7 HR
      go_upto_region 4 with (first | refine wpList_load_mid rfl 38 _ rfl b (o + s * 8) rfl [.int .i64 z0, .int .i64 z1, .int .i64 z2, .int .i64 z3, .int .i64 z4, .int .i64 z5, .int .i64 z6, .int .i64 z7] _ hr Try.underlying38 rfl infoF ?_)
      obtain ⟨K, hK⟩ : ∃ K, wr.heap.size = K := ⟨_, rfl⟩
      obtain ⟨W1, hW1⟩ : ∃ W1, wr.alloc (.cells #[.int .i64 z0, .int .i64 z1, .int .i64 z2, .int .i64 z3, .int .i64 z4, .int .i64 z5, .int .i64 z6, .int .i64 z7] 38) = W1 := ⟨_, rfl⟩
      have HN : Hid (Ft W1 K z0 z1 z2 z3 z4 z5 z6 z7) := by rw [← hW1, ← hK]; exact Ft.new wr _ _ _ _ _ _ _ _ _
      replace HS : Hid (OvS B C D p' q' u' v' X w W1) := by rw [← hW1]; exact HS.out.next ((Below.refl _ wr).alloc (Nat.le_refl _) _)
      rw [hW1, hK]
      clear hr hW1 hK
      have hrr : W1.rangeAt C 0 L := by rw [← hL]; exact HS.out.r.range
      go_wp2_with (first
        | refine wpList_load_mid rfl 38 _ rfl K 0 rfl [.int .i64 z0, .int .i64 z1, .int .i64 z2, .int .i64 z3, .int .i64 z4, .int .i64 z5, .int .i64 z6, .int .i64 z7] _ (by exact HN.out.range) Try.underlying38 rfl infoF ?_
        | refine wpList_load_mid rfl 36 _ rfl B 0 rfl [.int .i64 p', .int .i64 q', .int .i64 u', .int .i64 v'] _ (by exact HS.out.g.range) Try.underlying36 rfl infoP ?_
        | refine wpList_load_mid rfl 40 _ rfl C 0 rfl L _ hrr Try.underlying40 rfl i0 ?_)
      refine (CB.out _).mono ?_
      rintro e W2 ⟨rfl, b2⟩
      replace HS : Hid (OvS B C D p' q' u' v' X w W2) := HS.out.next b2
      have ht : W2.there C 0 M.toArray.size := by rw [← hM]; exact Bk.there HS.out.r .u8 Y
      have HT : Hid (OvS B C D p' q' u' v' Y w (W2.setCells C 0 M)) := by rw [← hM]; exact HS.out.put oC oD Y
      clear hrr b2 HN
      go_wp2_with (refine wpList_store_mid rfl 40 _ _ rfl C 0 M.toArray rfl rfl ht j9 one1 ?_)
      go_roundw
      case rel => exact ⟨s + 1, by omega, by go_num, by rw [hY]; exact HT⟩
      case measure => simp [intOf]; omega
    · obtain rfl : s = len := by omega
      obtain ⟨X, hX⟩ : ∃ X, ovF n Z p' q' u' v' F s = X := ⟨_, rfl⟩
      rw [hX] at HS
      have HX : Hid (ovF n Z p' q' u' v' F s = X) := hX
      clear hX HA HR
      obtain ⟨L, hL⟩ : ∃ L, ints .u8 72 X = L := ⟨_, rfl⟩
      have hrr := HS.out.r.range
      have ht := Bk.there HS.out.e .u8 X
      have i0 : (Try.prog.info? 40).map (·.size) = some L.length := by rw [← hL, ints_len]; exact infoR
      have j9 : (Try.prog.info? 40).map (·.size) = some L.toArray.size := by simpa using i0
      have one1 : L.toArray.all (·.oneCell') = true := by rw [← hL]; exact ints_one .u8 72 X
      rw [hL] at hrr ht
      have HLL : Hid (ints .u8 72 X = L) := hL
      clear hL
      go_wp2_with (first | refine wpList_load_mid rfl 40 _ rfl C 0 rfl L _ hrr Try.underlying40 rfl i0 ?_ | refine wpList_store_mid rfl 40 _ _ rfl D 0 L.toArray rfl rfl ht j9 one1 ?_)
      have hs2 : (World.setCells wr D 0 L).rangeAt D 0 L := World.rangeAt_setCells_same wr _ 0 L (by simpa using ht)
      have hld := run_loadVar_mid (P := Try.prog) (World.setCells wr D 0 L) D 0 40 L _ hs2 Try.underlying40 rfl i0
      refine bodyPost_ret (v := .agg L.toArray) ?_ rfl ⟨by rw [HX.out, HLL.out], by first | exact belows_put (by omega) _ 0 HS.out.n | (rw [hB]; exact belows_put (by omega) _ 0 HS.out.n)⟩
      simp [results, Try.f70, Act.put, asAddr, hld]
end Go.Proofs.Ytcpjmfemgdgplaa

/-
  The document's chips: their struct; is there an index.
-/
namespace Go.Proofs.Ytcpjmfemgdgplaa
open Go.RowKit Go.Shelf
open Ge (pw rt hd ix)
attribute [local go_sem] Oper.semAt_some

/-- the cells of the document's chips -/
def dl (r s b o d m : Int) (va vb vc : Value) : List Value := [.int .i64 r, .int .i64 s, .int .i64 b, .int .i64 o, .int .i64 d, .int .i64 m, va, vb, vc]
theorem infoD12 : (Try.prog.info? 34).map (·.size) = some 9 := by kernel_rfl
theorem infoG12 : (Try.prog.info? 30).map (·.size) = some 5 := by kernel_rfl
/-- the document's chips in a block -/
structure D12 (B : Nat) (r s b o d m : Int) (va vb vc : Value) (w W : World) : Prop where
  c : Cb W B (dl r s b o d m va vb vc)
  n : Below B w W
section
variable {B : Nat} {r s b o d m : Int} {va vb vc : Value} {w W W' : World}
theorem D12.next (h : D12 B r s b o d m va vb vc w W) (e : Below W.heap.size W W') : D12 B r s b o d m va vb vc w W' := ⟨h.c.next e, h.n.trans (e.mono (Nat.le_of_lt h.c.lt))⟩
theorem D12.g (h : D12 B r s b o d m va vb vc w W) : W.rangeAt B 0 [.int .i64 r, .int .i64 s, .int .i64 b, .int .i64 o, .int .i64 d] := h.c.rangeAt 0 _ rfl
theorem D12.all (h : D12 B r s b o d m va vb vc w W) : W.rangeAt B 0 [.int .i64 r, .int .i64 s, .int .i64 b, .int .i64 o, .int .i64 d, .int .i64 m, va, vb, vc] := h.c.range
theorem D12.cm (h : D12 B r s b o d m va vb vc w W) : W.cell? ⟨B, 5, none⟩ = some (.int .i64 m) := h.c.cell rfl
theorem D12.ca (h : D12 B r s b o d m va vb vc w W) : W.cell? ⟨B, 6, none⟩ = some va := h.c.cell rfl
theorem D12.cb (h : D12 B r s b o d m va vb vc w W) : W.cell? ⟨B, 7, none⟩ = some vb := h.c.cell rfl
theorem D12.cc (h : D12 B r s b o d m va vb vc w W) : W.cell? ⟨B, 8, none⟩ = some vc := h.c.cell rfl
end
set_option maxRecDepth 100000 in
set_option maxHeartbeats 2000000 in
theorem has12_any (r s b o d m : Int) (va vb vc : Value) (i : Int) (hr : I64 r) (hb : I64 b) (ho : I64 o) (hd9 : I64 d) (hi : i < 9223372036854775808) (w : World) :
    Calls Try.prog 18 #[.agg #[.int .i64 r, .int .i64 s, .int .i64 b, .int .i64 o, .int .i64 d, .int .i64 m, va, vb, vc], .int .i64 i] w fun e w' => e = .returned (.bool (decide (0 ≤ i) && hx r s b o d i)) ∧ Below w.heap.size w w' := by
  obtain ⟨z, Z⟩ : ∃ z, hx r s b o d i = z := ⟨_, rfl⟩
  by_cases h0 : 0 ≤ i
  · have d0 : decide (0 ≤ i) = true := decide_eq_true h0
    have CP : Hid (∀ w : World, Calls Try.prog 44 #[.int .i64 i] w fun e w' => e = .returned (.agg #[.int .i64 (i / 1048576), .int .i64 (i / 65536 % 16), .int .i64 (i / 64 % 1024), .int .i64 (i % 64)]) ∧ Below w.heap.size w w') := refPlace_any i h0 hi
    have CH : Hid (∀ w : World, Calls Try.prog 43 #[.agg #[.int .i64 r, .int .i64 s, .int .i64 b, .int .i64 o, .int .i64 d], .agg #[.int .i64 (i / 1048576), .int .i64 (i / 65536 % 16), .int .i64 (i / 64 % 1024), .int .i64 (i % 64)]] w fun e w' => e = .returned (.bool z) ∧ Below w.heap.size w w') := fun w => by rw [← Z]; exact refHolds_any r s b o d _ _ _ _ hr hb ho hd9 w
    rw [Z, d0]
    clear Z hr hb ho hd9 h0
    obtain ⟨p0, hp0⟩ : ∃ y, i / 1048576 = y := ⟨_, rfl⟩
    obtain ⟨p1, hp1⟩ : ∃ y, i / 65536 % 16 = y := ⟨_, rfl⟩
    obtain ⟨p2, hp2⟩ : ∃ y, i / 64 % 1024 = y := ⟨_, rfl⟩
    obtain ⟨p3, hp3⟩ : ∃ y, i % 64 = y := ⟨_, rfl⟩
    rw [hp0, hp1, hp2, hp3] at CP CH
    clear hp0 hp1 hp2 hp3
    go_enter Try.func18, Try.ntmps18
    go_upto_region 1 with (fail)
    obtain ⟨B, hB⟩ : ∃ B, w.heap.size = B := ⟨_, rfl⟩
    obtain ⟨V, hV⟩ : ∃ V, w.alloc (.cells #[.int .i64 r, .int .i64 s, .int .i64 b, .int .i64 o, .int .i64 d, .int .i64 m, va, vb, vc] 34) = V := ⟨_, rfl⟩
    have HS : Hid (D12 B r s b o d m va vb vc w V) := by rw [← hV, ← hB]; exact ⟨Cb.new w (dl r s b o d m va vb vc) _, (Below.refl _ w).alloc (Nat.le_refl _) _⟩
    rw [hV, hB]
    clear hV
    refine region_calm (by kernel_rfl) (by kernel_rfl) (fun W => Below V.heap.size V W) (below_drew1 V) ?_
    intro U hU f hf hof
    have HN : Hid (∀ u W, Below (f u).heap.size (f u) W → ∃ x, W = f x) := fun u W h => hof W ((hf u).trans (h.mono (hf u).size))
    have HE : Hid (∀ y, D12 B r s b o d m va vb vc w (f y)) := fun y => HS.out.next (hf y)
    clear hf hof HS
    go_big_quiet_step (fail)
    go_big_quiet_step (fail)
    go_big_quiet_step (fail)
    go_big_quiet_step (fail)
    refine quiet_load (by rfl) 30 _ rfl B 0 rfl [.int .i64 r, .int .i64 s, .int .i64 b, .int .i64 o, .int .i64 d] _ (by rintro _ ⟨y, rfl⟩; exact (HE.out y).g) Try.underlying30 rfl infoG12 ?_
    simp only [Act.put, List.setIfInBounds_toArray, List.set_cons_zero, List.set_cons_succ]
    go_big_quiet_step (fail)
    go_big_quiet_step ((go_at_call 44; exact calm_next HN.out (CP.out _)))
    go_big_quiet_step ((go_at_call 43; exact calm_next HN.out (CH.out _)))
    go_big_quiet_step (fail)
    go_big_quiet_step (fail)
    refine wpQuiet_nil ?_
    rintro _ ⟨y, rfl⟩
    go_wp2
    go_ret
    exact ⟨rfl, by first | exact (HE.out y).n | (rw [hB]; exact (HE.out y).n)⟩
  · have d0 : decide (0 ≤ i) = false := decide_eq_false h0
    rw [d0]
    clear h0 Z
    go_enter Try.func18, Try.ntmps18
    go_upto_region 1 with (fail)
    have HB : Hid (Below w.heap.size w (w.alloc (.cells #[.int .i64 r, .int .i64 s, .int .i64 b, .int .i64 o, .int .i64 d, .int .i64 m, va, vb, vc] 34))) := (Below.refl _ w).alloc (Nat.le_refl _) _
    obtain ⟨V, hV⟩ : ∃ V, w.alloc (.cells #[.int .i64 r, .int .i64 s, .int .i64 b, .int .i64 o, .int .i64 d, .int .i64 m, va, vb, vc] 34) = V := ⟨_, rfl⟩
    rw [hV] at HB ⊢
    clear hV
    refine region_calm (by kernel_rfl) (by kernel_rfl) (fun W => Below V.heap.size V W) (below_drew1 V) ?_
    intro U hU f hf hof
    have HE : Hid (∀ y, Below w.heap.size w (f y)) := fun y => HB.out.trans ((hf y).mono HB.out.size)
    clear hf hof HB
    go_big_quiet_step (fail)
    go_big_quiet_step (fail)
    go_big_quiet_step (fail)
    go_big_quiet_step (fail)
    go_big_quiet_step (fail)
    go_big_quiet_step (fail)
    go_big_quiet_step (fail)
    go_big_quiet_step (fail)
    go_big_quiet_step (fail)
    go_big_quiet_step (fail)
    refine wpQuiet_nil ?_
    rintro _ ⟨y, rfl⟩
    go_wp2
    go_ret
    exact ⟨rfl, HE.out y⟩
end Go.Proofs.Ytcpjmfemgdgplaa
