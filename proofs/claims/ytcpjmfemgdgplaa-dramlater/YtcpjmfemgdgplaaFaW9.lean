/-
  The walks of package fault: which chip a fault covers.
-/
import Derived.Test.YtcpjmfemgdgplaaFaW1
import Derived.Test.YtcpjmfemgdgplaaRwW2
namespace Go.Proofs.Ytcpjmfemgdgplaa
open Go.RowKit Go.Shelf
attribute [local go_sem] Oper.semAt_some

/-- the chip that a fault covers -/
def cv (n k c i : Int) : Int := if k = 1 ∨ k = 2 then (if 0 < n ∧ 0 ≤ i ∧ i < 576 then i / 8 % n else -1) else if 3 ≤ k ∧ k ≤ 5 then (if 0 ≤ c ∧ c < n then c else -1) else -1
set_option maxRecDepth 100000 in
set_option maxHeartbeats 2000000 in
theorem covers_1yes (p q u v c i x m : Int) (y1 y2 y3 : Int) (h3 : (y3 == 0) = true) (C0 : Hid (∀ w : World, Calls Try.prog 55 #[.int .i64 m, .int .i64 i] w fun e w' => e = .returned (.tuple #[.int .i64 y1, .int .i64 y2, .int .i64 y3]) ∧ Below w.heap.size w w')) (w : World) :
    Calls Try.prog 30 #[.agg #[.int .i64 1, .int .i64 p, .int .i64 q, .int .i64 u, .int .i64 v, .int .i64 c, .int .i64 i, .int .i64 x], .int .i64 m] w fun e w' => e = .returned (.int .i64 (y2)) ∧ Below w.heap.size w w' := by
  go_enter Try.func30, Try.ntmps30
  go_upto_region 1 with (fail)
  obtain ⟨B, hB⟩ : ∃ B, w.heap.size = B := ⟨_, rfl⟩
  obtain ⟨V, hV⟩ : ∃ V, w.alloc (.cells #[.int .i64 1, .int .i64 p, .int .i64 q, .int .i64 u, .int .i64 v, .int .i64 c, .int .i64 i, .int .i64 x] 38) = V := ⟨_, rfl⟩
  have HF : Hid (Ft V B 1 p q u v c i x ∧ Below B w V) := by rw [← hV, ← hB]; exact ⟨Ft.new w 1 p q u v c i x _, (Below.refl _ w).alloc (Nat.le_refl _) _⟩
  have c0 := HF.out.1.c0; have c5 := HF.out.1.c5; have c6 := HF.out.1.c6
  rw [hV, hB]
  clear hV
  go_wp2_with (go_at_call 55; refine (C0.out _).mono ?_; rintro e w1 ⟨rfl, b1⟩; replace HF : Hid (Below B w w1) := HF.out.2.trans (b1.mono (Nat.le_of_lt HF.out.1.lt)); clear b1 c0 c5 c6)
  go_ret
  exact ⟨rfl, by first | exact HF.out | (rw [hB]; exact HF.out)⟩
set_option maxRecDepth 100000 in
set_option maxHeartbeats 2000000 in
theorem covers_1no (p q u v c i x m : Int) (y1 y2 y3 : Int) (h3 : (y3 == 0) = false) (C0 : Hid (∀ w : World, Calls Try.prog 55 #[.int .i64 m, .int .i64 i] w fun e w' => e = .returned (.tuple #[.int .i64 y1, .int .i64 y2, .int .i64 y3]) ∧ Below w.heap.size w w')) (w : World) :
    Calls Try.prog 30 #[.agg #[.int .i64 1, .int .i64 p, .int .i64 q, .int .i64 u, .int .i64 v, .int .i64 c, .int .i64 i, .int .i64 x], .int .i64 m] w fun e w' => e = .returned (.int .i64 (-1)) ∧ Below w.heap.size w w' := by
  go_enter Try.func30, Try.ntmps30
  go_upto_region 1 with (fail)
  obtain ⟨B, hB⟩ : ∃ B, w.heap.size = B := ⟨_, rfl⟩
  obtain ⟨V, hV⟩ : ∃ V, w.alloc (.cells #[.int .i64 1, .int .i64 p, .int .i64 q, .int .i64 u, .int .i64 v, .int .i64 c, .int .i64 i, .int .i64 x] 38) = V := ⟨_, rfl⟩
  have HF : Hid (Ft V B 1 p q u v c i x ∧ Below B w V) := by rw [← hV, ← hB]; exact ⟨Ft.new w 1 p q u v c i x _, (Below.refl _ w).alloc (Nat.le_refl _) _⟩
  have c0 := HF.out.1.c0; have c5 := HF.out.1.c5; have c6 := HF.out.1.c6
  rw [hV, hB]
  clear hV
  go_wp2_with (go_at_call 55; refine (C0.out _).mono ?_; rintro e w1 ⟨rfl, b1⟩; replace HF : Hid (Below B w w1) := HF.out.2.trans (b1.mono (Nat.le_of_lt HF.out.1.lt)); clear b1 c0 c5 c6)
  go_ret
  exact ⟨rfl, by first | exact HF.out | (rw [hB]; exact HF.out)⟩
set_option maxRecDepth 100000 in
set_option maxHeartbeats 2000000 in
theorem covers_2yes (p q u v c i x m : Int) (y1 y2 y3 : Int) (h3 : (y3 == 0) = true) (C0 : Hid (∀ w : World, Calls Try.prog 55 #[.int .i64 m, .int .i64 i] w fun e w' => e = .returned (.tuple #[.int .i64 y1, .int .i64 y2, .int .i64 y3]) ∧ Below w.heap.size w w')) (w : World) :
    Calls Try.prog 30 #[.agg #[.int .i64 2, .int .i64 p, .int .i64 q, .int .i64 u, .int .i64 v, .int .i64 c, .int .i64 i, .int .i64 x], .int .i64 m] w fun e w' => e = .returned (.int .i64 (y2)) ∧ Below w.heap.size w w' := by
  go_enter Try.func30, Try.ntmps30
  go_upto_region 1 with (fail)
  obtain ⟨B, hB⟩ : ∃ B, w.heap.size = B := ⟨_, rfl⟩
  obtain ⟨V, hV⟩ : ∃ V, w.alloc (.cells #[.int .i64 2, .int .i64 p, .int .i64 q, .int .i64 u, .int .i64 v, .int .i64 c, .int .i64 i, .int .i64 x] 38) = V := ⟨_, rfl⟩
  have HF : Hid (Ft V B 2 p q u v c i x ∧ Below B w V) := by rw [← hV, ← hB]; exact ⟨Ft.new w 2 p q u v c i x _, (Below.refl _ w).alloc (Nat.le_refl _) _⟩
  have c0 := HF.out.1.c0; have c5 := HF.out.1.c5; have c6 := HF.out.1.c6
  rw [hV, hB]
  clear hV
  go_wp2_with (go_at_call 55; refine (C0.out _).mono ?_; rintro e w1 ⟨rfl, b1⟩; replace HF : Hid (Below B w w1) := HF.out.2.trans (b1.mono (Nat.le_of_lt HF.out.1.lt)); clear b1 c0 c5 c6)
  go_ret
  exact ⟨rfl, by first | exact HF.out | (rw [hB]; exact HF.out)⟩
set_option maxRecDepth 100000 in
set_option maxHeartbeats 2000000 in
theorem covers_2no (p q u v c i x m : Int) (y1 y2 y3 : Int) (h3 : (y3 == 0) = false) (C0 : Hid (∀ w : World, Calls Try.prog 55 #[.int .i64 m, .int .i64 i] w fun e w' => e = .returned (.tuple #[.int .i64 y1, .int .i64 y2, .int .i64 y3]) ∧ Below w.heap.size w w')) (w : World) :
    Calls Try.prog 30 #[.agg #[.int .i64 2, .int .i64 p, .int .i64 q, .int .i64 u, .int .i64 v, .int .i64 c, .int .i64 i, .int .i64 x], .int .i64 m] w fun e w' => e = .returned (.int .i64 (-1)) ∧ Below w.heap.size w w' := by
  go_enter Try.func30, Try.ntmps30
  go_upto_region 1 with (fail)
  obtain ⟨B, hB⟩ : ∃ B, w.heap.size = B := ⟨_, rfl⟩
  obtain ⟨V, hV⟩ : ∃ V, w.alloc (.cells #[.int .i64 2, .int .i64 p, .int .i64 q, .int .i64 u, .int .i64 v, .int .i64 c, .int .i64 i, .int .i64 x] 38) = V := ⟨_, rfl⟩
  have HF : Hid (Ft V B 2 p q u v c i x ∧ Below B w V) := by rw [← hV, ← hB]; exact ⟨Ft.new w 2 p q u v c i x _, (Below.refl _ w).alloc (Nat.le_refl _) _⟩
  have c0 := HF.out.1.c0; have c5 := HF.out.1.c5; have c6 := HF.out.1.c6
  rw [hV, hB]
  clear hV
  go_wp2_with (go_at_call 55; refine (C0.out _).mono ?_; rintro e w1 ⟨rfl, b1⟩; replace HF : Hid (Below B w w1) := HF.out.2.trans (b1.mono (Nat.le_of_lt HF.out.1.lt)); clear b1 c0 c5 c6)
  go_ret
  exact ⟨rfl, by first | exact HF.out | (rw [hB]; exact HF.out)⟩
set_option maxRecDepth 100000 in
set_option maxHeartbeats 2000000 in
theorem covers_3true (p q u v c i x m : Int) (n : Int) (C1 : Hid (∀ w : World, Calls Try.prog 57 #[.int .i64 m] w fun e w' => e = .returned (.int .i64 n) ∧ w' = w)) (C2 : Hid (∀ w : World, Calls Try.prog 56 #[.int .i64 c, .int .i64 n] w fun e w' => e = .returned (.bool true) ∧ w' = w)) (w : World) :
    Calls Try.prog 30 #[.agg #[.int .i64 3, .int .i64 p, .int .i64 q, .int .i64 u, .int .i64 v, .int .i64 c, .int .i64 i, .int .i64 x], .int .i64 m] w fun e w' => e = .returned (.int .i64 (c)) ∧ Below w.heap.size w w' := by
  go_enter Try.func30, Try.ntmps30
  go_upto_region 1 with (fail)
  obtain ⟨B, hB⟩ : ∃ B, w.heap.size = B := ⟨_, rfl⟩
  obtain ⟨V, hV⟩ : ∃ V, w.alloc (.cells #[.int .i64 3, .int .i64 p, .int .i64 q, .int .i64 u, .int .i64 v, .int .i64 c, .int .i64 i, .int .i64 x] 38) = V := ⟨_, rfl⟩
  have HF : Hid (Ft V B 3 p q u v c i x ∧ Below B w V) := by rw [← hV, ← hB]; exact ⟨Ft.new w 3 p q u v c i x _, (Below.refl _ w).alloc (Nat.le_refl _) _⟩
  have c0 := HF.out.1.c0; have c5 := HF.out.1.c5; have c6 := HF.out.1.c6
  rw [hV, hB]
  clear hV
  go_upto_region 10 with (fail)
  refine region_calm (by kernel_rfl) (by kernel_rfl) (fun W => Below V.heap.size V W) (below_drew1 V) ?_
  intro U hU f hf hof
  have HE : Hid (∀ y, Ft (f y) B 3 p q u v c i x ∧ Below B w (f y)) := fun y => ⟨HF.out.1.next (hf y), HF.out.2.trans ((hf y).mono (Nat.le_of_lt HF.out.1.lt))⟩
  have f5 : ∀ y, (f y).cell? ⟨B, 5, none⟩ = some (.int .i64 c) := fun y => (HE.out y).1.c5
  clear hf hof c0 c5 c6 HF
  go_big_quiet_step (fail)
  go_big_quiet_step (fail)
  go_big_quiet_step (fail)
  go_big_quiet_step ((go_at_call 57; exact calm_same (C1.out _)))
  go_big_quiet_step ((go_at_call 56; exact calm_same (C2.out _)))
  refine wpQuiet_nil ?_
  rintro _ ⟨y, rfl⟩
  have c5 := f5 y
  go_wp2
  go_ret
  exact ⟨rfl, by first | exact (HE.out y).2 | (rw [hB]; exact (HE.out y).2)⟩
set_option maxRecDepth 100000 in
set_option maxHeartbeats 2000000 in
theorem covers_3false (p q u v c i x m : Int) (n : Int) (C1 : Hid (∀ w : World, Calls Try.prog 57 #[.int .i64 m] w fun e w' => e = .returned (.int .i64 n) ∧ w' = w)) (C2 : Hid (∀ w : World, Calls Try.prog 56 #[.int .i64 c, .int .i64 n] w fun e w' => e = .returned (.bool false) ∧ w' = w)) (w : World) :
    Calls Try.prog 30 #[.agg #[.int .i64 3, .int .i64 p, .int .i64 q, .int .i64 u, .int .i64 v, .int .i64 c, .int .i64 i, .int .i64 x], .int .i64 m] w fun e w' => e = .returned (.int .i64 (-1)) ∧ Below w.heap.size w w' := by
  go_enter Try.func30, Try.ntmps30
  go_upto_region 1 with (fail)
  obtain ⟨B, hB⟩ : ∃ B, w.heap.size = B := ⟨_, rfl⟩
  obtain ⟨V, hV⟩ : ∃ V, w.alloc (.cells #[.int .i64 3, .int .i64 p, .int .i64 q, .int .i64 u, .int .i64 v, .int .i64 c, .int .i64 i, .int .i64 x] 38) = V := ⟨_, rfl⟩
  have HF : Hid (Ft V B 3 p q u v c i x ∧ Below B w V) := by rw [← hV, ← hB]; exact ⟨Ft.new w 3 p q u v c i x _, (Below.refl _ w).alloc (Nat.le_refl _) _⟩
  have c0 := HF.out.1.c0; have c5 := HF.out.1.c5; have c6 := HF.out.1.c6
  rw [hV, hB]
  clear hV
  go_upto_region 10 with (fail)
  refine region_calm (by kernel_rfl) (by kernel_rfl) (fun W => Below V.heap.size V W) (below_drew1 V) ?_
  intro U hU f hf hof
  have HE : Hid (∀ y, Ft (f y) B 3 p q u v c i x ∧ Below B w (f y)) := fun y => ⟨HF.out.1.next (hf y), HF.out.2.trans ((hf y).mono (Nat.le_of_lt HF.out.1.lt))⟩
  have f5 : ∀ y, (f y).cell? ⟨B, 5, none⟩ = some (.int .i64 c) := fun y => (HE.out y).1.c5
  clear hf hof c0 c5 c6 HF
  go_big_quiet_step (fail)
  go_big_quiet_step (fail)
  go_big_quiet_step (fail)
  go_big_quiet_step ((go_at_call 57; exact calm_same (C1.out _)))
  go_big_quiet_step ((go_at_call 56; exact calm_same (C2.out _)))
  refine wpQuiet_nil ?_
  rintro _ ⟨y, rfl⟩
  have c5 := f5 y
  go_wp2
  go_ret
  exact ⟨rfl, by first | exact (HE.out y).2 | (rw [hB]; exact (HE.out y).2)⟩
set_option maxRecDepth 100000 in
set_option maxHeartbeats 2000000 in
theorem covers_4true (p q u v c i x m : Int) (n : Int) (C1 : Hid (∀ w : World, Calls Try.prog 57 #[.int .i64 m] w fun e w' => e = .returned (.int .i64 n) ∧ w' = w)) (C2 : Hid (∀ w : World, Calls Try.prog 56 #[.int .i64 c, .int .i64 n] w fun e w' => e = .returned (.bool true) ∧ w' = w)) (w : World) :
    Calls Try.prog 30 #[.agg #[.int .i64 4, .int .i64 p, .int .i64 q, .int .i64 u, .int .i64 v, .int .i64 c, .int .i64 i, .int .i64 x], .int .i64 m] w fun e w' => e = .returned (.int .i64 (c)) ∧ Below w.heap.size w w' := by
  go_enter Try.func30, Try.ntmps30
  go_upto_region 1 with (fail)
  obtain ⟨B, hB⟩ : ∃ B, w.heap.size = B := ⟨_, rfl⟩
  obtain ⟨V, hV⟩ : ∃ V, w.alloc (.cells #[.int .i64 4, .int .i64 p, .int .i64 q, .int .i64 u, .int .i64 v, .int .i64 c, .int .i64 i, .int .i64 x] 38) = V := ⟨_, rfl⟩
  have HF : Hid (Ft V B 4 p q u v c i x ∧ Below B w V) := by rw [← hV, ← hB]; exact ⟨Ft.new w 4 p q u v c i x _, (Below.refl _ w).alloc (Nat.le_refl _) _⟩
  have c0 := HF.out.1.c0; have c5 := HF.out.1.c5; have c6 := HF.out.1.c6
  rw [hV, hB]
  clear hV
  go_upto_region 10 with (fail)
  refine region_calm (by kernel_rfl) (by kernel_rfl) (fun W => Below V.heap.size V W) (below_drew1 V) ?_
  intro U hU f hf hof
  have HE : Hid (∀ y, Ft (f y) B 4 p q u v c i x ∧ Below B w (f y)) := fun y => ⟨HF.out.1.next (hf y), HF.out.2.trans ((hf y).mono (Nat.le_of_lt HF.out.1.lt))⟩
  have f5 : ∀ y, (f y).cell? ⟨B, 5, none⟩ = some (.int .i64 c) := fun y => (HE.out y).1.c5
  clear hf hof c0 c5 c6 HF
  go_big_quiet_step (fail)
  go_big_quiet_step (fail)
  go_big_quiet_step (fail)
  go_big_quiet_step ((go_at_call 57; exact calm_same (C1.out _)))
  go_big_quiet_step ((go_at_call 56; exact calm_same (C2.out _)))
  refine wpQuiet_nil ?_
  rintro _ ⟨y, rfl⟩
  have c5 := f5 y
  go_wp2
  go_ret
  exact ⟨rfl, by first | exact (HE.out y).2 | (rw [hB]; exact (HE.out y).2)⟩
set_option maxRecDepth 100000 in
set_option maxHeartbeats 2000000 in
theorem covers_4false (p q u v c i x m : Int) (n : Int) (C1 : Hid (∀ w : World, Calls Try.prog 57 #[.int .i64 m] w fun e w' => e = .returned (.int .i64 n) ∧ w' = w)) (C2 : Hid (∀ w : World, Calls Try.prog 56 #[.int .i64 c, .int .i64 n] w fun e w' => e = .returned (.bool false) ∧ w' = w)) (w : World) :
    Calls Try.prog 30 #[.agg #[.int .i64 4, .int .i64 p, .int .i64 q, .int .i64 u, .int .i64 v, .int .i64 c, .int .i64 i, .int .i64 x], .int .i64 m] w fun e w' => e = .returned (.int .i64 (-1)) ∧ Below w.heap.size w w' := by
  go_enter Try.func30, Try.ntmps30
  go_upto_region 1 with (fail)
  obtain ⟨B, hB⟩ : ∃ B, w.heap.size = B := ⟨_, rfl⟩
  obtain ⟨V, hV⟩ : ∃ V, w.alloc (.cells #[.int .i64 4, .int .i64 p, .int .i64 q, .int .i64 u, .int .i64 v, .int .i64 c, .int .i64 i, .int .i64 x] 38) = V := ⟨_, rfl⟩
  have HF : Hid (Ft V B 4 p q u v c i x ∧ Below B w V) := by rw [← hV, ← hB]; exact ⟨Ft.new w 4 p q u v c i x _, (Below.refl _ w).alloc (Nat.le_refl _) _⟩
  have c0 := HF.out.1.c0; have c5 := HF.out.1.c5; have c6 := HF.out.1.c6
  rw [hV, hB]
  clear hV
  go_upto_region 10 with (fail)
  refine region_calm (by kernel_rfl) (by kernel_rfl) (fun W => Below V.heap.size V W) (below_drew1 V) ?_
  intro U hU f hf hof
  have HE : Hid (∀ y, Ft (f y) B 4 p q u v c i x ∧ Below B w (f y)) := fun y => ⟨HF.out.1.next (hf y), HF.out.2.trans ((hf y).mono (Nat.le_of_lt HF.out.1.lt))⟩
  have f5 : ∀ y, (f y).cell? ⟨B, 5, none⟩ = some (.int .i64 c) := fun y => (HE.out y).1.c5
  clear hf hof c0 c5 c6 HF
  go_big_quiet_step (fail)
  go_big_quiet_step (fail)
  go_big_quiet_step (fail)
  go_big_quiet_step ((go_at_call 57; exact calm_same (C1.out _)))
  go_big_quiet_step ((go_at_call 56; exact calm_same (C2.out _)))
  refine wpQuiet_nil ?_
  rintro _ ⟨y, rfl⟩
  have c5 := f5 y
  go_wp2
  go_ret
  exact ⟨rfl, by first | exact (HE.out y).2 | (rw [hB]; exact (HE.out y).2)⟩
set_option maxRecDepth 100000 in
set_option maxHeartbeats 2000000 in
theorem covers_5true (p q u v c i x m : Int) (n : Int) (C1 : Hid (∀ w : World, Calls Try.prog 57 #[.int .i64 m] w fun e w' => e = .returned (.int .i64 n) ∧ w' = w)) (C2 : Hid (∀ w : World, Calls Try.prog 56 #[.int .i64 c, .int .i64 n] w fun e w' => e = .returned (.bool true) ∧ w' = w)) (w : World) :
    Calls Try.prog 30 #[.agg #[.int .i64 5, .int .i64 p, .int .i64 q, .int .i64 u, .int .i64 v, .int .i64 c, .int .i64 i, .int .i64 x], .int .i64 m] w fun e w' => e = .returned (.int .i64 (c)) ∧ Below w.heap.size w w' := by
  go_enter Try.func30, Try.ntmps30
  go_upto_region 1 with (fail)
  obtain ⟨B, hB⟩ : ∃ B, w.heap.size = B := ⟨_, rfl⟩
  obtain ⟨V, hV⟩ : ∃ V, w.alloc (.cells #[.int .i64 5, .int .i64 p, .int .i64 q, .int .i64 u, .int .i64 v, .int .i64 c, .int .i64 i, .int .i64 x] 38) = V := ⟨_, rfl⟩
  have HF : Hid (Ft V B 5 p q u v c i x ∧ Below B w V) := by rw [← hV, ← hB]; exact ⟨Ft.new w 5 p q u v c i x _, (Below.refl _ w).alloc (Nat.le_refl _) _⟩
  have c0 := HF.out.1.c0; have c5 := HF.out.1.c5; have c6 := HF.out.1.c6
  rw [hV, hB]
  clear hV
  go_upto_region 10 with (fail)
  refine region_calm (by kernel_rfl) (by kernel_rfl) (fun W => Below V.heap.size V W) (below_drew1 V) ?_
  intro U hU f hf hof
  have HE : Hid (∀ y, Ft (f y) B 5 p q u v c i x ∧ Below B w (f y)) := fun y => ⟨HF.out.1.next (hf y), HF.out.2.trans ((hf y).mono (Nat.le_of_lt HF.out.1.lt))⟩
  have f5 : ∀ y, (f y).cell? ⟨B, 5, none⟩ = some (.int .i64 c) := fun y => (HE.out y).1.c5
  clear hf hof c0 c5 c6 HF
  go_big_quiet_step (fail)
  go_big_quiet_step (fail)
  go_big_quiet_step (fail)
  go_big_quiet_step ((go_at_call 57; exact calm_same (C1.out _)))
  go_big_quiet_step ((go_at_call 56; exact calm_same (C2.out _)))
  refine wpQuiet_nil ?_
  rintro _ ⟨y, rfl⟩
  have c5 := f5 y
  go_wp2
  go_ret
  exact ⟨rfl, by first | exact (HE.out y).2 | (rw [hB]; exact (HE.out y).2)⟩
set_option maxRecDepth 100000 in
set_option maxHeartbeats 2000000 in
theorem covers_5false (p q u v c i x m : Int) (n : Int) (C1 : Hid (∀ w : World, Calls Try.prog 57 #[.int .i64 m] w fun e w' => e = .returned (.int .i64 n) ∧ w' = w)) (C2 : Hid (∀ w : World, Calls Try.prog 56 #[.int .i64 c, .int .i64 n] w fun e w' => e = .returned (.bool false) ∧ w' = w)) (w : World) :
    Calls Try.prog 30 #[.agg #[.int .i64 5, .int .i64 p, .int .i64 q, .int .i64 u, .int .i64 v, .int .i64 c, .int .i64 i, .int .i64 x], .int .i64 m] w fun e w' => e = .returned (.int .i64 (-1)) ∧ Below w.heap.size w w' := by
  go_enter Try.func30, Try.ntmps30
  go_upto_region 1 with (fail)
  obtain ⟨B, hB⟩ : ∃ B, w.heap.size = B := ⟨_, rfl⟩
  obtain ⟨V, hV⟩ : ∃ V, w.alloc (.cells #[.int .i64 5, .int .i64 p, .int .i64 q, .int .i64 u, .int .i64 v, .int .i64 c, .int .i64 i, .int .i64 x] 38) = V := ⟨_, rfl⟩
  have HF : Hid (Ft V B 5 p q u v c i x ∧ Below B w V) := by rw [← hV, ← hB]; exact ⟨Ft.new w 5 p q u v c i x _, (Below.refl _ w).alloc (Nat.le_refl _) _⟩
  have c0 := HF.out.1.c0; have c5 := HF.out.1.c5; have c6 := HF.out.1.c6
  rw [hV, hB]
  clear hV
  go_upto_region 10 with (fail)
  refine region_calm (by kernel_rfl) (by kernel_rfl) (fun W => Below V.heap.size V W) (below_drew1 V) ?_
  intro U hU f hf hof
  have HE : Hid (∀ y, Ft (f y) B 5 p q u v c i x ∧ Below B w (f y)) := fun y => ⟨HF.out.1.next (hf y), HF.out.2.trans ((hf y).mono (Nat.le_of_lt HF.out.1.lt))⟩
  have f5 : ∀ y, (f y).cell? ⟨B, 5, none⟩ = some (.int .i64 c) := fun y => (HE.out y).1.c5
  clear hf hof c0 c5 c6 HF
  go_big_quiet_step (fail)
  go_big_quiet_step (fail)
  go_big_quiet_step (fail)
  go_big_quiet_step ((go_at_call 57; exact calm_same (C1.out _)))
  go_big_quiet_step ((go_at_call 56; exact calm_same (C2.out _)))
  refine wpQuiet_nil ?_
  rintro _ ⟨y, rfl⟩
  have c5 := f5 y
  go_wp2
  go_ret
  exact ⟨rfl, by first | exact (HE.out y).2 | (rw [hB]; exact (HE.out y).2)⟩
set_option maxRecDepth 100000 in
set_option maxHeartbeats 2000000 in
theorem covers_rest (k p q u v c i x m : Int) (h1 : (k == 1) = false) (h2 : (k == 2) = false) (h3 : (k == 3) = false) (h4 : (k == 4) = false) (h5 : (k == 5) = false) (w : World) :
    Calls Try.prog 30 #[.agg #[.int .i64 k, .int .i64 p, .int .i64 q, .int .i64 u, .int .i64 v, .int .i64 c, .int .i64 i, .int .i64 x], .int .i64 m] w fun e w' => e = .returned (.int .i64 (-1)) ∧ Below w.heap.size w w' := by
  go_enter Try.func30, Try.ntmps30
  go_upto_region 1 with (fail)
  obtain ⟨B, hB⟩ : ∃ B, w.heap.size = B := ⟨_, rfl⟩
  obtain ⟨V, hV⟩ : ∃ V, w.alloc (.cells #[.int .i64 k, .int .i64 p, .int .i64 q, .int .i64 u, .int .i64 v, .int .i64 c, .int .i64 i, .int .i64 x] 38) = V := ⟨_, rfl⟩
  have HF : Hid (Ft V B k p q u v c i x ∧ Below B w V) := by rw [← hV, ← hB]; exact ⟨Ft.new w k p q u v c i x _, (Below.refl _ w).alloc (Nat.le_refl _) _⟩
  have c0 := HF.out.1.c0; have c5 := HF.out.1.c5; have c6 := HF.out.1.c6
  rw [hV, hB]
  clear hV
  go_wp2
  go_ret
  exact ⟨rfl, by first | exact HF.out.2 | (rw [hB]; exact HF.out.2)⟩
theorem wh_yes {m n j : Int} (hm : Md m n j) (i : Int) (h0 : 0 < n) (h1 : 0 ≤ i) (h2 : i < 576) : Hid (∀ w : World, Calls Try.prog 55 #[.int .i64 m, .int .i64 i] w fun e w' => e = .returned (.tuple #[.int .i64 (i / 8 / n), .int .i64 (i / 8 % n), .int .i64 0]) ∧ Below w.heap.size w w') := fun w =>
  (whose_yes hm i h0 h1 h2 w).mono fun _ _ ⟨he, q, hq⟩ => ⟨he, by subst hq; exact below_drewN (Below.refl _ w) q⟩
theorem wh_no {m n j : Int} (hm : Md m n j) (i : Int) (h : n = 0 ∨ ¬ (0 ≤ i ∧ i < 576)) : Hid (∀ w : World, Calls Try.prog 55 #[.int .i64 m, .int .i64 i] w fun e w' => e = .returned (.tuple #[.int .i64 0, .int .i64 0, .int .i64 12]) ∧ Below w.heap.size w w') := fun w =>
  (whose_no hm i h w).mono fun _ _ ⟨he, hq⟩ => ⟨he, by subst hq; exact Below.refl _ _⟩
theorem covers_any (k p q u v c i x : Int) (m n j : Int) (hm : Md m n j) (w : World) :
    Calls Try.prog 30 #[.agg #[.int .i64 k, .int .i64 p, .int .i64 q, .int .i64 u, .int .i64 v, .int .i64 c, .int .i64 i, .int .i64 x], .int .i64 m] w fun e w' => e = .returned (.int .i64 (cv n k c i)) ∧ Below w.heap.size w w' := by
  unfold cv
  by_cases h : k = 1 ∨ k = 2
  · rw [if_pos h]
    by_cases h2 : 0 < n ∧ 0 ≤ i ∧ i < 576
    · rw [if_pos h2]
      rcases h with rfl | rfl
      · exact covers_1yes p q u v c i x m _ _ _ rfl (wh_yes hm i h2.1 h2.2.1 h2.2.2) w
      · exact covers_2yes p q u v c i x m _ _ _ rfl (wh_yes hm i h2.1 h2.2.1 h2.2.2) w
    · rw [if_neg h2]
      have hn : 0 ≤ n := by rcases hm with ⟨_, rfl, _⟩ | ⟨_, rfl, _⟩ | ⟨_, _, rfl, _⟩ <;> omega
      rcases h with rfl | rfl
      · exact covers_1no p q u v c i x m _ _ _ rfl (wh_no hm i (by omega)) w
      · exact covers_2no p q u v c i x m _ _ _ rfl (wh_no hm i (by omega)) w
  · rw [if_neg h]
    by_cases h3 : 3 ≤ k ∧ k ≤ 5
    · rw [if_pos h3]
      have C2 : ∀ z : Bool, decide (0 ≤ c ∧ c < n) = z → ∀ w : World, Calls Try.prog 56 #[.int .i64 c, .int .i64 n] w fun e w' => e = .returned (.bool z) ∧ w' = w := fun z hz w => by rw [← hz]; exact fbelow_any c n w
      by_cases h4 : 0 ≤ c ∧ c < n
      · rw [if_pos h4]
        rcases (show k = 3 ∨ k = 4 ∨ k = 5 by omega) with rfl | rfl | rfl
        · exact covers_3true p q u v c i x m n (fun w => countChips_any hm w) (C2 true (decide_eq_true h4)) w
        · exact covers_4true p q u v c i x m n (fun w => countChips_any hm w) (C2 true (decide_eq_true h4)) w
        · exact covers_5true p q u v c i x m n (fun w => countChips_any hm w) (C2 true (decide_eq_true h4)) w
      · rw [if_neg h4]
        rcases (show k = 3 ∨ k = 4 ∨ k = 5 by omega) with rfl | rfl | rfl
        · exact covers_3false p q u v c i x m n (fun w => countChips_any hm w) (C2 false (decide_eq_false h4)) w
        · exact covers_4false p q u v c i x m n (fun w => countChips_any hm w) (C2 false (decide_eq_false h4)) w
        · exact covers_5false p q u v c i x m n (fun w => countChips_any hm w) (C2 false (decide_eq_false h4)) w
    · rw [if_neg h3]
      exact covers_rest k p q u v c i x m (by rw [beq_eq_false_iff_ne]; omega) (by rw [beq_eq_false_iff_ne]; omega) (by rw [beq_eq_false_iff_ne]; omega) (by rw [beq_eq_false_iff_ne]; omega) (by rw [beq_eq_false_iff_ne]; omega) w
end Go.Proofs.Ytcpjmfemgdgplaa
