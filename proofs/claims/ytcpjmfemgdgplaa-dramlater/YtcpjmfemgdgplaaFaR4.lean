/-
  The document's Apply.
-/
import Derived.Test.YtcpjmfemgdgplaaFaW7
import Derived.Test.YtcpjmfemgdgplaaFaR1
namespace Go.Proofs.Ytcpjmfemgdgplaa
open Go.RowKit Go.Shelf
attribute [local go_sem] Oper.semAt_some

set_option maxRecDepth 100000 in
set_option maxHeartbeats 2000000 in
theorem refApply_low (k p q u v c i x : Int) (p' q' u' v' : Int) (F : Nat → Int) (m : Int) (h : k < 2) (w : World) :
    Calls Try.prog 46 #[.agg #[.int .i64 k, .int .i64 p, .int .i64 q, .int .i64 u, .int .i64 v, .int .i64 c, .int .i64 i, .int .i64 x], .int .i64 m, .agg #[.int .i64 p', .int .i64 q', .int .i64 u', .int .i64 v'], .agg (ints .u8 72 F).toArray] w fun e w' => e = .returned (.agg (ints .u8 72 F).toArray) ∧ Below w.heap.size w w' := by
  have hz := zeroA9
  obtain ⟨L, hL⟩ : ∃ L, ints .u8 72 F = L := ⟨_, rfl⟩
  obtain ⟨Z, hZ⟩ : ∃ A, (ints .u8 72 fun _ => 0).toArray = A := ⟨_, rfl⟩
  have i0 : (Try.prog.info? 39).map (·.size) = some L.length := by rw [← hL, ints_len]; exact infoA9
  have one0 : L.toArray.all (·.oneCell') = true := by rw [← hL]; exact ints_one .u8 72 F
  have HL : Hid (ints .u8 72 F = L) := hL
  have d0 : decide (k < 2) = true := decide_eq_true h
  rw [hL]
  rw [hZ] at hz
  go_enter Try.func46, Try.ntmps46
  go_upto_region 1 with (fail)
  obtain ⟨B, hB⟩ : ∃ B, w.heap.size = B := ⟨_, rfl⟩
  obtain ⟨C, hC⟩ : ∃ C, B + 1 = C := ⟨_, rfl⟩
  obtain ⟨D, hD⟩ : ∃ D, C + 1 = D := ⟨_, rfl⟩
  obtain ⟨E, hE⟩ : ∃ E, D + 1 = E := ⟨_, rfl⟩
  obtain ⟨V, hV⟩ : ∃ V, (((w.alloc (.cells #[.int .i64 k, .int .i64 p, .int .i64 q, .int .i64 u, .int .i64 v, .int .i64 c, .int .i64 i, .int .i64 x] 51)).alloc (.cells #[.int .i64 p', .int .i64 q', .int .i64 u', .int .i64 v'] 49)).alloc (.cells L.toArray 39)).alloc (.cells Z 39) = V := ⟨_, rfl⟩
  have HS : Hid (Ap B C D E k p q u v c i x p' q' u' v' L w V) := by
    have a1 := Pl.new (w.alloc (.cells #[.int .i64 k, .int .i64 p, .int .i64 q, .int .i64 u, .int .i64 v, .int .i64 c, .int .i64 i, .int .i64 x] 51)) p' q' u' v' 49
    have a2 := Bk.new .u8 ((w.alloc (.cells #[.int .i64 k, .int .i64 p, .int .i64 q, .int .i64 u, .int .i64 v, .int .i64 c, .int .i64 i, .int .i64 x] 51)).alloc (.cells #[.int .i64 p', .int .i64 q', .int .i64 u', .int .i64 v'] 49)) 72 F 39
    have a3 := Bk.new .u8 (((w.alloc (.cells #[.int .i64 k, .int .i64 p, .int .i64 q, .int .i64 u, .int .i64 v, .int .i64 c, .int .i64 i, .int .i64 x] 51)).alloc (.cells #[.int .i64 p', .int .i64 q', .int .i64 u', .int .i64 v'] 49)).alloc (.cells L.toArray 39)) 72 (fun _ => 0) 39
    rw [hL] at a2
    rw [hZ] at a3
    simp only [World.size_alloc] at a1 a2 a3
    have r2 := (a2.alloc (.cells Z 39)).range
    rw [hL] at r2
    rw [← hV, ← hE, ← hD, ← hC, ← hB]
    exact ⟨(((Ft.new w k p q u v c i x _).alloc _).alloc _).alloc _, (a1.alloc _).alloc _, r2, by simp only [World.size_alloc]; omega, a3, ((((Below.refl _ w).alloc (Nat.le_refl _) _).alloc (by simp) _).alloc (by simp; omega) _).alloc (by simp; omega) _, by simp only [World.size_alloc]; omega, by omega⟩
  rw [hV, hB, hC, hD, hE]
  clear hV hC hD hE hz hZ hL
  have f0 := HS.out.f.c0; have f5 := HS.out.f.c5; have f6 := HS.out.f.c6; have f7 := HS.out.f.c7
  go_upto_region 2 with (first
      | refine wpList_load_mid rfl 51 _ rfl B 0 rfl [.int .i64 k, .int .i64 p, .int .i64 q, .int .i64 u, .int .i64 v, .int .i64 c, .int .i64 i, .int .i64 x] _ (by exact HS.out.f.range) Try.underlying51 rfl infoG ?_
      | refine wpList_load_g (by rfl) 51 _ rfl B 0 rfl [.int .i64 k, .int .i64 p, .int .i64 q, .int .i64 u, .int .i64 v, .int .i64 c, .int .i64 i, .int .i64 x] _ (by exact HS.out.f.range) Try.underlying51 rfl infoG ?_
      | refine wpList_load_g (by rfl) 49 _ rfl C 0 rfl [.int .i64 p', .int .i64 q', .int .i64 u', .int .i64 v'] _ (by exact HS.out.g.range) Try.underlying49 rfl infoQ ?_
      | refine wpList_load_mid rfl 39 _ rfl D 0 rfl L _ (by exact HS.out.r) Try.underlying39 rfl i0 ?_)
  have ht : World.there V E 0 72 := Bk.there HS.out.e .u8 (fun _ => 0)
  have ht2 : World.there V E 0 L.toArray.size := by rw [show L.toArray.size = 72 by rw [← HL.out]; simp [ints]]; exact ht
  have j9 : (Try.prog.info? 39).map (·.size) = some L.toArray.size := by simpa using i0
  go_wp2_with (first
      | refine wpList_load_mid rfl 51 _ rfl B 0 rfl [.int .i64 k, .int .i64 p, .int .i64 q, .int .i64 u, .int .i64 v, .int .i64 c, .int .i64 i, .int .i64 x] _ (by exact HS.out.f.range) Try.underlying51 rfl infoG ?_
      | refine wpList_load_g (by rfl) 51 _ rfl B 0 rfl [.int .i64 k, .int .i64 p, .int .i64 q, .int .i64 u, .int .i64 v, .int .i64 c, .int .i64 i, .int .i64 x] _ (by exact HS.out.f.range) Try.underlying51 rfl infoG ?_
      | refine wpList_load_g (by rfl) 49 _ rfl C 0 rfl [.int .i64 p', .int .i64 q', .int .i64 u', .int .i64 v'] _ (by exact HS.out.g.range) Try.underlying49 rfl infoQ ?_
      | refine wpList_load_mid rfl 39 _ rfl D 0 rfl L _ (by exact HS.out.r) Try.underlying39 rfl i0 ?_
      | refine wpList_store_mid rfl 39 _ _ rfl E 0 L.toArray rfl rfl ht2 j9 one0 ?_)
  have hs : (World.setCells V E 0 L).rangeAt E 0 L := World.rangeAt_setCells_same V _ 0 L (by simpa using ht2)
  have hld := run_loadVar_mid (P := Try.prog) (World.setCells V E 0 L) E 0 39 L _ hs Try.underlying39 rfl i0
  refine bodyPost_ret (v := .agg L.toArray) ?_ rfl ⟨rfl, by first | exact belows_put HS.out.o _ 0 HS.out.n | (rw [hB]; exact belows_put HS.out.o _ 0 HS.out.n)⟩
  simp [results, Try.f46, Act.put, asAddr, hld]
set_option maxRecDepth 100000 in
set_option maxHeartbeats 2000000 in
theorem refApply_high (k p q u v c i x : Int) (p' q' u' v' : Int) (F : Nat → Int) (m : Int) (h : 5 < k) (w : World) :
    Calls Try.prog 46 #[.agg #[.int .i64 k, .int .i64 p, .int .i64 q, .int .i64 u, .int .i64 v, .int .i64 c, .int .i64 i, .int .i64 x], .int .i64 m, .agg #[.int .i64 p', .int .i64 q', .int .i64 u', .int .i64 v'], .agg (ints .u8 72 F).toArray] w fun e w' => e = .returned (.agg (ints .u8 72 F).toArray) ∧ Below w.heap.size w w' := by
  have hz := zeroA9
  obtain ⟨L, hL⟩ : ∃ L, ints .u8 72 F = L := ⟨_, rfl⟩
  obtain ⟨Z, hZ⟩ : ∃ A, (ints .u8 72 fun _ => 0).toArray = A := ⟨_, rfl⟩
  have i0 : (Try.prog.info? 39).map (·.size) = some L.length := by rw [← hL, ints_len]; exact infoA9
  have one0 : L.toArray.all (·.oneCell') = true := by rw [← hL]; exact ints_one .u8 72 F
  have HL : Hid (ints .u8 72 F = L) := hL
  have d0 : decide (k < 2) = false := decide_eq_false (by omega)
  have d1 : decide (5 < k) = true := decide_eq_true h
  rw [hL]
  rw [hZ] at hz
  go_enter Try.func46, Try.ntmps46
  go_upto_region 1 with (fail)
  obtain ⟨B, hB⟩ : ∃ B, w.heap.size = B := ⟨_, rfl⟩
  obtain ⟨C, hC⟩ : ∃ C, B + 1 = C := ⟨_, rfl⟩
  obtain ⟨D, hD⟩ : ∃ D, C + 1 = D := ⟨_, rfl⟩
  obtain ⟨E, hE⟩ : ∃ E, D + 1 = E := ⟨_, rfl⟩
  obtain ⟨V, hV⟩ : ∃ V, (((w.alloc (.cells #[.int .i64 k, .int .i64 p, .int .i64 q, .int .i64 u, .int .i64 v, .int .i64 c, .int .i64 i, .int .i64 x] 51)).alloc (.cells #[.int .i64 p', .int .i64 q', .int .i64 u', .int .i64 v'] 49)).alloc (.cells L.toArray 39)).alloc (.cells Z 39) = V := ⟨_, rfl⟩
  have HS : Hid (Ap B C D E k p q u v c i x p' q' u' v' L w V) := by
    have a1 := Pl.new (w.alloc (.cells #[.int .i64 k, .int .i64 p, .int .i64 q, .int .i64 u, .int .i64 v, .int .i64 c, .int .i64 i, .int .i64 x] 51)) p' q' u' v' 49
    have a2 := Bk.new .u8 ((w.alloc (.cells #[.int .i64 k, .int .i64 p, .int .i64 q, .int .i64 u, .int .i64 v, .int .i64 c, .int .i64 i, .int .i64 x] 51)).alloc (.cells #[.int .i64 p', .int .i64 q', .int .i64 u', .int .i64 v'] 49)) 72 F 39
    have a3 := Bk.new .u8 (((w.alloc (.cells #[.int .i64 k, .int .i64 p, .int .i64 q, .int .i64 u, .int .i64 v, .int .i64 c, .int .i64 i, .int .i64 x] 51)).alloc (.cells #[.int .i64 p', .int .i64 q', .int .i64 u', .int .i64 v'] 49)).alloc (.cells L.toArray 39)) 72 (fun _ => 0) 39
    rw [hL] at a2
    rw [hZ] at a3
    simp only [World.size_alloc] at a1 a2 a3
    have r2 := (a2.alloc (.cells Z 39)).range
    rw [hL] at r2
    rw [← hV, ← hE, ← hD, ← hC, ← hB]
    exact ⟨(((Ft.new w k p q u v c i x _).alloc _).alloc _).alloc _, (a1.alloc _).alloc _, r2, by simp only [World.size_alloc]; omega, a3, ((((Below.refl _ w).alloc (Nat.le_refl _) _).alloc (by simp) _).alloc (by simp; omega) _).alloc (by simp; omega) _, by simp only [World.size_alloc]; omega, by omega⟩
  rw [hV, hB, hC, hD, hE]
  clear hV hC hD hE hz hZ hL
  have f0 := HS.out.f.c0; have f5 := HS.out.f.c5; have f6 := HS.out.f.c6; have f7 := HS.out.f.c7
  go_upto_region 2 with (first
      | refine wpList_load_mid rfl 51 _ rfl B 0 rfl [.int .i64 k, .int .i64 p, .int .i64 q, .int .i64 u, .int .i64 v, .int .i64 c, .int .i64 i, .int .i64 x] _ (by exact HS.out.f.range) Try.underlying51 rfl infoG ?_
      | refine wpList_load_g (by rfl) 51 _ rfl B 0 rfl [.int .i64 k, .int .i64 p, .int .i64 q, .int .i64 u, .int .i64 v, .int .i64 c, .int .i64 i, .int .i64 x] _ (by exact HS.out.f.range) Try.underlying51 rfl infoG ?_
      | refine wpList_load_g (by rfl) 49 _ rfl C 0 rfl [.int .i64 p', .int .i64 q', .int .i64 u', .int .i64 v'] _ (by exact HS.out.g.range) Try.underlying49 rfl infoQ ?_
      | refine wpList_load_mid rfl 39 _ rfl D 0 rfl L _ (by exact HS.out.r) Try.underlying39 rfl i0 ?_)
  have ht : World.there V E 0 72 := Bk.there HS.out.e .u8 (fun _ => 0)
  have ht2 : World.there V E 0 L.toArray.size := by rw [show L.toArray.size = 72 by rw [← HL.out]; simp [ints]]; exact ht
  have j9 : (Try.prog.info? 39).map (·.size) = some L.toArray.size := by simpa using i0
  go_wp2_with (first
      | refine wpList_load_mid rfl 51 _ rfl B 0 rfl [.int .i64 k, .int .i64 p, .int .i64 q, .int .i64 u, .int .i64 v, .int .i64 c, .int .i64 i, .int .i64 x] _ (by exact HS.out.f.range) Try.underlying51 rfl infoG ?_
      | refine wpList_load_g (by rfl) 51 _ rfl B 0 rfl [.int .i64 k, .int .i64 p, .int .i64 q, .int .i64 u, .int .i64 v, .int .i64 c, .int .i64 i, .int .i64 x] _ (by exact HS.out.f.range) Try.underlying51 rfl infoG ?_
      | refine wpList_load_g (by rfl) 49 _ rfl C 0 rfl [.int .i64 p', .int .i64 q', .int .i64 u', .int .i64 v'] _ (by exact HS.out.g.range) Try.underlying49 rfl infoQ ?_
      | refine wpList_load_mid rfl 39 _ rfl D 0 rfl L _ (by exact HS.out.r) Try.underlying39 rfl i0 ?_
      | refine wpList_store_mid rfl 39 _ _ rfl E 0 L.toArray rfl rfl ht2 j9 one0 ?_)
  have hs : (World.setCells V E 0 L).rangeAt E 0 L := World.rangeAt_setCells_same V _ 0 L (by simpa using ht2)
  have hld := run_loadVar_mid (P := Try.prog) (World.setCells V E 0 L) E 0 39 L _ hs Try.underlying39 rfl i0
  refine bodyPost_ret (v := .agg L.toArray) ?_ rfl ⟨rfl, by first | exact belows_put HS.out.o _ 0 HS.out.n | (rw [hB]; exact belows_put HS.out.o _ 0 HS.out.n)⟩
  simp [results, Try.f46, Act.put, asAddr, hld]
set_option maxRecDepth 100000 in
set_option maxHeartbeats 2000000 in
theorem refApply_away (k p q u v c i x : Int) (p' q' u' v' : Int) (F : Nat → Int) (m : Int) (h : 2 ≤ k ∧ k ≤ 5) (h2 : lz k p q u v p' q' u' v' = false) (w : World) :
    Calls Try.prog 46 #[.agg #[.int .i64 k, .int .i64 p, .int .i64 q, .int .i64 u, .int .i64 v, .int .i64 c, .int .i64 i, .int .i64 x], .int .i64 m, .agg #[.int .i64 p', .int .i64 q', .int .i64 u', .int .i64 v'], .agg (ints .u8 72 F).toArray] w fun e w' => e = .returned (.agg (ints .u8 72 F).toArray) ∧ Below w.heap.size w w' := by
  have hz := zeroA9
  obtain ⟨L, hL⟩ : ∃ L, ints .u8 72 F = L := ⟨_, rfl⟩
  obtain ⟨Z, hZ⟩ : ∃ A, (ints .u8 72 fun _ => 0).toArray = A := ⟨_, rfl⟩
  have i0 : (Try.prog.info? 39).map (·.size) = some L.length := by rw [← hL, ints_len]; exact infoA9
  have one0 : L.toArray.all (·.oneCell') = true := by rw [← hL]; exact ints_one .u8 72 F
  have HL : Hid (ints .u8 72 F = L) := hL
  have d0 : decide (k < 2) = false := decide_eq_false (by omega)
  have d1 : decide (5 < k) = false := decide_eq_false (by omega)
  have C1 : Hid (∀ w : World, Calls Try.prog 71 #[.agg #[.int .i64 k, .int .i64 p, .int .i64 q, .int .i64 u, .int .i64 v, .int .i64 c, .int .i64 i, .int .i64 x], .agg #[.int .i64 p', .int .i64 q', .int .i64 u', .int .i64 v']] w fun e w' => e = .returned (.bool false) ∧ Below w.heap.size w w') := fun w => by rw [← h2]; exact refLies_any k p q u v c i x p' q' u' v' w
  rw [hL]
  rw [hZ] at hz
  go_enter Try.func46, Try.ntmps46
  go_upto_region 1 with (fail)
  obtain ⟨B, hB⟩ : ∃ B, w.heap.size = B := ⟨_, rfl⟩
  obtain ⟨C, hC⟩ : ∃ C, B + 1 = C := ⟨_, rfl⟩
  obtain ⟨D, hD⟩ : ∃ D, C + 1 = D := ⟨_, rfl⟩
  obtain ⟨E, hE⟩ : ∃ E, D + 1 = E := ⟨_, rfl⟩
  obtain ⟨V, hV⟩ : ∃ V, (((w.alloc (.cells #[.int .i64 k, .int .i64 p, .int .i64 q, .int .i64 u, .int .i64 v, .int .i64 c, .int .i64 i, .int .i64 x] 51)).alloc (.cells #[.int .i64 p', .int .i64 q', .int .i64 u', .int .i64 v'] 49)).alloc (.cells L.toArray 39)).alloc (.cells Z 39) = V := ⟨_, rfl⟩
  have HS : Hid (Ap B C D E k p q u v c i x p' q' u' v' L w V) := by
    have a1 := Pl.new (w.alloc (.cells #[.int .i64 k, .int .i64 p, .int .i64 q, .int .i64 u, .int .i64 v, .int .i64 c, .int .i64 i, .int .i64 x] 51)) p' q' u' v' 49
    have a2 := Bk.new .u8 ((w.alloc (.cells #[.int .i64 k, .int .i64 p, .int .i64 q, .int .i64 u, .int .i64 v, .int .i64 c, .int .i64 i, .int .i64 x] 51)).alloc (.cells #[.int .i64 p', .int .i64 q', .int .i64 u', .int .i64 v'] 49)) 72 F 39
    have a3 := Bk.new .u8 (((w.alloc (.cells #[.int .i64 k, .int .i64 p, .int .i64 q, .int .i64 u, .int .i64 v, .int .i64 c, .int .i64 i, .int .i64 x] 51)).alloc (.cells #[.int .i64 p', .int .i64 q', .int .i64 u', .int .i64 v'] 49)).alloc (.cells L.toArray 39)) 72 (fun _ => 0) 39
    rw [hL] at a2
    rw [hZ] at a3
    simp only [World.size_alloc] at a1 a2 a3
    have r2 := (a2.alloc (.cells Z 39)).range
    rw [hL] at r2
    rw [← hV, ← hE, ← hD, ← hC, ← hB]
    exact ⟨(((Ft.new w k p q u v c i x _).alloc _).alloc _).alloc _, (a1.alloc _).alloc _, r2, by simp only [World.size_alloc]; omega, a3, ((((Below.refl _ w).alloc (Nat.le_refl _) _).alloc (by simp) _).alloc (by simp; omega) _).alloc (by simp; omega) _, by simp only [World.size_alloc]; omega, by omega⟩
  rw [hV, hB, hC, hD, hE]
  clear hV hC hD hE hz hZ hL
  have f0 := HS.out.f.c0; have f5 := HS.out.f.c5; have f6 := HS.out.f.c6; have f7 := HS.out.f.c7
  go_upto_region 2 with (first
      | refine wpList_load_mid rfl 51 _ rfl B 0 rfl [.int .i64 k, .int .i64 p, .int .i64 q, .int .i64 u, .int .i64 v, .int .i64 c, .int .i64 i, .int .i64 x] _ (by exact HS.out.f.range) Try.underlying51 rfl infoG ?_
      | refine wpList_load_g (by rfl) 51 _ rfl B 0 rfl [.int .i64 k, .int .i64 p, .int .i64 q, .int .i64 u, .int .i64 v, .int .i64 c, .int .i64 i, .int .i64 x] _ (by exact HS.out.f.range) Try.underlying51 rfl infoG ?_
      | refine wpList_load_g (by rfl) 49 _ rfl C 0 rfl [.int .i64 p', .int .i64 q', .int .i64 u', .int .i64 v'] _ (by exact HS.out.g.range) Try.underlying49 rfl infoQ ?_
      | refine wpList_load_mid rfl 39 _ rfl D 0 rfl L _ (by exact HS.out.r) Try.underlying39 rfl i0 ?_
      | (go_at_call 71; refine (C1.out _).mono ?_; rintro e W2 ⟨rfl, b1⟩; replace HS : Hid (Ap B C D E k p q u v c i x p' q' u' v' L w W2) := HS.out.next b1; clear b1 f0 f5 f6 f7; have f0 := HS.out.f.c0; have f5 := HS.out.f.c5; have f6 := HS.out.f.c6; have f7 := HS.out.f.c7))
  have ht : World.there W2 E 0 72 := Bk.there HS.out.e .u8 (fun _ => 0)
  have ht2 : World.there W2 E 0 L.toArray.size := by rw [show L.toArray.size = 72 by rw [← HL.out]; simp [ints]]; exact ht
  have j9 : (Try.prog.info? 39).map (·.size) = some L.toArray.size := by simpa using i0
  go_wp2_with (first
      | refine wpList_load_mid rfl 51 _ rfl B 0 rfl [.int .i64 k, .int .i64 p, .int .i64 q, .int .i64 u, .int .i64 v, .int .i64 c, .int .i64 i, .int .i64 x] _ (by exact HS.out.f.range) Try.underlying51 rfl infoG ?_
      | refine wpList_load_g (by rfl) 51 _ rfl B 0 rfl [.int .i64 k, .int .i64 p, .int .i64 q, .int .i64 u, .int .i64 v, .int .i64 c, .int .i64 i, .int .i64 x] _ (by exact HS.out.f.range) Try.underlying51 rfl infoG ?_
      | refine wpList_load_g (by rfl) 49 _ rfl C 0 rfl [.int .i64 p', .int .i64 q', .int .i64 u', .int .i64 v'] _ (by exact HS.out.g.range) Try.underlying49 rfl infoQ ?_
      | refine wpList_load_mid rfl 39 _ rfl D 0 rfl L _ (by exact HS.out.r) Try.underlying39 rfl i0 ?_
      | refine wpList_store_mid rfl 39 _ _ rfl E 0 L.toArray rfl rfl ht2 j9 one0 ?_)
  have hs : (World.setCells W2 E 0 L).rangeAt E 0 L := World.rangeAt_setCells_same W2 _ 0 L (by simpa using ht2)
  have hld := run_loadVar_mid (P := Try.prog) (World.setCells W2 E 0 L) E 0 39 L _ hs Try.underlying39 rfl i0
  refine bodyPost_ret (v := .agg L.toArray) ?_ rfl ⟨rfl, by first | exact belows_put HS.out.o _ 0 HS.out.n | (rw [hB]; exact belows_put HS.out.o _ 0 HS.out.n)⟩
  simp [results, Try.f46, Act.put, asAddr, hld]
set_option maxRecDepth 100000 in
set_option maxHeartbeats 2000000 in
theorem refApply_force (k p q u v c i x : Int) (p' q' u' v' : Int) (F : Nat → Int) (m : Int) (_h : 2 ≤ k ∧ k ≤ 5) (h2 : lz k p q u v p' q' u' v' = true) (h3 : k = 2) (X : Nat → Int) (hc : ∀ w : World, Calls Try.prog 25 #[.agg (ints .u8 72 F).toArray, .int .i64 i, .int .i64 x] w fun e w' => e = .returned (.agg (ints .u8 72 X).toArray) ∧ Below w.heap.size w w') (w : World) :
    Calls Try.prog 46 #[.agg #[.int .i64 k, .int .i64 p, .int .i64 q, .int .i64 u, .int .i64 v, .int .i64 c, .int .i64 i, .int .i64 x], .int .i64 m, .agg #[.int .i64 p', .int .i64 q', .int .i64 u', .int .i64 v'], .agg (ints .u8 72 F).toArray] w fun e w' => e = .returned (.agg (ints .u8 72 X).toArray) ∧ Below w.heap.size w w' := by
  have hz := zeroA9
  obtain ⟨L, hL⟩ : ∃ L, ints .u8 72 F = L := ⟨_, rfl⟩
  obtain ⟨Z, hZ⟩ : ∃ A, (ints .u8 72 fun _ => 0).toArray = A := ⟨_, rfl⟩
  have i0 : (Try.prog.info? 39).map (·.size) = some L.length := by rw [← hL, ints_len]; exact infoA9
  have one0 : L.toArray.all (·.oneCell') = true := by rw [← hL]; exact ints_one .u8 72 F
  have HL : Hid (ints .u8 72 F = L) := hL
  have d0 : decide (k < 2) = false := decide_eq_false (by omega)
  have d1 : decide (5 < k) = false := decide_eq_false (by omega)
  have d2 : (k == 2) = true := by simpa using h3
  clear h3
  have C1 : Hid (∀ w : World, Calls Try.prog 71 #[.agg #[.int .i64 k, .int .i64 p, .int .i64 q, .int .i64 u, .int .i64 v, .int .i64 c, .int .i64 i, .int .i64 x], .agg #[.int .i64 p', .int .i64 q', .int .i64 u', .int .i64 v']] w fun e w' => e = .returned (.bool true) ∧ Below w.heap.size w w') := fun w => by rw [← h2]; exact refLies_any k p q u v c i x p' q' u' v' w
  obtain ⟨L1, hL1⟩ : ∃ L1, ints .u8 72 X = L1 := ⟨_, rfl⟩
  have i1 : (Try.prog.info? 39).map (·.size) = some L1.length := by rw [← hL1, ints_len]; exact infoA9
  have one1 : L1.toArray.all (·.oneCell') = true := by rw [← hL1]; exact ints_one .u8 72 X
  have HL1 : Hid (ints .u8 72 X = L1) := hL1
  rw [hL, hL1] at hc
  have C3 : Hid (∀ w : World, Calls Try.prog 25 #[.agg L.toArray, .int .i64 i, .int .i64 x] w fun e w' => e = .returned (.agg L1.toArray) ∧ Below w.heap.size w w') := hc
  clear hc hL1
  rw [hL, HL1.out]
  rw [hZ] at hz
  go_enter Try.func46, Try.ntmps46
  go_upto_region 1 with (fail)
  obtain ⟨B, hB⟩ : ∃ B, w.heap.size = B := ⟨_, rfl⟩
  obtain ⟨C, hC⟩ : ∃ C, B + 1 = C := ⟨_, rfl⟩
  obtain ⟨D, hD⟩ : ∃ D, C + 1 = D := ⟨_, rfl⟩
  obtain ⟨E, hE⟩ : ∃ E, D + 1 = E := ⟨_, rfl⟩
  obtain ⟨V, hV⟩ : ∃ V, (((w.alloc (.cells #[.int .i64 k, .int .i64 p, .int .i64 q, .int .i64 u, .int .i64 v, .int .i64 c, .int .i64 i, .int .i64 x] 51)).alloc (.cells #[.int .i64 p', .int .i64 q', .int .i64 u', .int .i64 v'] 49)).alloc (.cells L.toArray 39)).alloc (.cells Z 39) = V := ⟨_, rfl⟩
  have HS : Hid (Ap B C D E k p q u v c i x p' q' u' v' L w V) := by
    have a1 := Pl.new (w.alloc (.cells #[.int .i64 k, .int .i64 p, .int .i64 q, .int .i64 u, .int .i64 v, .int .i64 c, .int .i64 i, .int .i64 x] 51)) p' q' u' v' 49
    have a2 := Bk.new .u8 ((w.alloc (.cells #[.int .i64 k, .int .i64 p, .int .i64 q, .int .i64 u, .int .i64 v, .int .i64 c, .int .i64 i, .int .i64 x] 51)).alloc (.cells #[.int .i64 p', .int .i64 q', .int .i64 u', .int .i64 v'] 49)) 72 F 39
    have a3 := Bk.new .u8 (((w.alloc (.cells #[.int .i64 k, .int .i64 p, .int .i64 q, .int .i64 u, .int .i64 v, .int .i64 c, .int .i64 i, .int .i64 x] 51)).alloc (.cells #[.int .i64 p', .int .i64 q', .int .i64 u', .int .i64 v'] 49)).alloc (.cells L.toArray 39)) 72 (fun _ => 0) 39
    rw [hL] at a2
    rw [hZ] at a3
    simp only [World.size_alloc] at a1 a2 a3
    have r2 := (a2.alloc (.cells Z 39)).range
    rw [hL] at r2
    rw [← hV, ← hE, ← hD, ← hC, ← hB]
    exact ⟨(((Ft.new w k p q u v c i x _).alloc _).alloc _).alloc _, (a1.alloc _).alloc _, r2, by simp only [World.size_alloc]; omega, a3, ((((Below.refl _ w).alloc (Nat.le_refl _) _).alloc (by simp) _).alloc (by simp; omega) _).alloc (by simp; omega) _, by simp only [World.size_alloc]; omega, by omega⟩
  rw [hV, hB, hC, hD, hE]
  clear hV hC hD hE hz hZ hL
  have f0 := HS.out.f.c0; have f5 := HS.out.f.c5; have f6 := HS.out.f.c6; have f7 := HS.out.f.c7
  go_upto_region 4 with (first
      | refine wpList_load_mid rfl 51 _ rfl B 0 rfl [.int .i64 k, .int .i64 p, .int .i64 q, .int .i64 u, .int .i64 v, .int .i64 c, .int .i64 i, .int .i64 x] _ (by exact HS.out.f.range) Try.underlying51 rfl infoG ?_
      | refine wpList_load_g (by rfl) 51 _ rfl B 0 rfl [.int .i64 k, .int .i64 p, .int .i64 q, .int .i64 u, .int .i64 v, .int .i64 c, .int .i64 i, .int .i64 x] _ (by exact HS.out.f.range) Try.underlying51 rfl infoG ?_
      | refine wpList_load_g (by rfl) 49 _ rfl C 0 rfl [.int .i64 p', .int .i64 q', .int .i64 u', .int .i64 v'] _ (by exact HS.out.g.range) Try.underlying49 rfl infoQ ?_
      | refine wpList_load_mid rfl 39 _ rfl D 0 rfl L _ (by exact HS.out.r) Try.underlying39 rfl i0 ?_
      | (go_at_call 71; refine (C1.out _).mono ?_; rintro e W2 ⟨rfl, b1⟩; replace HS : Hid (Ap B C D E k p q u v c i x p' q' u' v' L w W2) := HS.out.next b1; clear b1 f0 f5 f6 f7; have f0 := HS.out.f.c0; have f5 := HS.out.f.c5; have f6 := HS.out.f.c6; have f7 := HS.out.f.c7))
  go_wp2_with (first
      | refine wpList_load_mid rfl 51 _ rfl B 0 rfl [.int .i64 k, .int .i64 p, .int .i64 q, .int .i64 u, .int .i64 v, .int .i64 c, .int .i64 i, .int .i64 x] _ (by exact HS.out.f.range) Try.underlying51 rfl infoG ?_
      | refine wpList_load_g (by rfl) 51 _ rfl B 0 rfl [.int .i64 k, .int .i64 p, .int .i64 q, .int .i64 u, .int .i64 v, .int .i64 c, .int .i64 i, .int .i64 x] _ (by exact HS.out.f.range) Try.underlying51 rfl infoG ?_
      | refine wpList_load_g (by rfl) 49 _ rfl C 0 rfl [.int .i64 p', .int .i64 q', .int .i64 u', .int .i64 v'] _ (by exact HS.out.g.range) Try.underlying49 rfl infoQ ?_
      | refine wpList_load_mid rfl 39 _ rfl D 0 rfl L _ (by exact HS.out.r) Try.underlying39 rfl i0 ?_)
  refine (C3.out _).mono ?_
  rintro e W4 ⟨rfl, b1⟩
  replace HS : Hid (Ap B C D E k p q u v c i x p' q' u' v' L w W4) := HS.out.next b1
  clear b1 f0 f5 f6 f7
  have f0 := HS.out.f.c0
  have f5 := HS.out.f.c5
  have f6 := HS.out.f.c6
  have f7 := HS.out.f.c7
  have ht : World.there W4 E 0 72 := Bk.there HS.out.e .u8 (fun _ => 0)
  have ht2 : World.there W4 E 0 L1.toArray.size := by rw [show L1.toArray.size = 72 by rw [← HL1.out]; simp [ints]]; exact ht
  have j9 : (Try.prog.info? 39).map (·.size) = some L1.toArray.size := by simpa using i1
  go_wp2_with (first | refine wpList_store_mid rfl 39 _ _ rfl E 0 L1.toArray rfl rfl ht2 j9 one1 ?_)
  have hs : (World.setCells W4 E 0 L1).rangeAt E 0 L1 := World.rangeAt_setCells_same W4 _ 0 L1 (by simpa using ht2)
  have hld := run_loadVar_mid (P := Try.prog) (World.setCells W4 E 0 L1) E 0 39 L1 _ hs Try.underlying39 rfl i1
  refine bodyPost_ret (v := .agg L1.toArray) ?_ rfl ⟨rfl, by first | exact belows_put HS.out.o _ 0 HS.out.n | (rw [hB]; exact belows_put HS.out.o _ 0 HS.out.n)⟩
  simp [results, Try.f46, Act.put, asAddr, hld]
set_option maxRecDepth 100000 in
set_option maxHeartbeats 2000000 in
theorem refApply_chip (k p q u v c i x : Int) (p' q' u' v' : Int) (F : Nat → Int) (m : Int) (h : 2 ≤ k ∧ k ≤ 5) (h2 : lz k p q u v p' q' u' v' = true) (h3 : k ≠ 2) (X : Nat → Int) (hc : ∀ w : World, Calls Try.prog 72 #[.int .i64 m, .agg (ints .u8 72 F).toArray, .int .i64 c, .int .u8 (x % 256)] w fun e w' => e = .returned (.agg (ints .u8 72 X).toArray) ∧ Below w.heap.size w w') (w : World) :
    Calls Try.prog 46 #[.agg #[.int .i64 k, .int .i64 p, .int .i64 q, .int .i64 u, .int .i64 v, .int .i64 c, .int .i64 i, .int .i64 x], .int .i64 m, .agg #[.int .i64 p', .int .i64 q', .int .i64 u', .int .i64 v'], .agg (ints .u8 72 F).toArray] w fun e w' => e = .returned (.agg (ints .u8 72 X).toArray) ∧ Below w.heap.size w w' := by
  have hz := zeroA9
  obtain ⟨L, hL⟩ : ∃ L, ints .u8 72 F = L := ⟨_, rfl⟩
  obtain ⟨Z, hZ⟩ : ∃ A, (ints .u8 72 fun _ => 0).toArray = A := ⟨_, rfl⟩
  have i0 : (Try.prog.info? 39).map (·.size) = some L.length := by rw [← hL, ints_len]; exact infoA9
  have one0 : L.toArray.all (·.oneCell') = true := by rw [← hL]; exact ints_one .u8 72 F
  have HL : Hid (ints .u8 72 F = L) := hL
  have d0 : decide (k < 2) = false := decide_eq_false (by omega)
  have d1 : decide (5 < k) = false := decide_eq_false (by omega)
  have d2 : (k == 2) = false := by simpa using h3
  clear h3
  have C1 : Hid (∀ w : World, Calls Try.prog 71 #[.agg #[.int .i64 k, .int .i64 p, .int .i64 q, .int .i64 u, .int .i64 v, .int .i64 c, .int .i64 i, .int .i64 x], .agg #[.int .i64 p', .int .i64 q', .int .i64 u', .int .i64 v']] w fun e w' => e = .returned (.bool true) ∧ Below w.heap.size w w') := fun w => by rw [← h2]; exact refLies_any k p q u v c i x p' q' u' v' w
  obtain ⟨L1, hL1⟩ : ∃ L1, ints .u8 72 X = L1 := ⟨_, rfl⟩
  have i1 : (Try.prog.info? 39).map (·.size) = some L1.length := by rw [← hL1, ints_len]; exact infoA9
  have one1 : L1.toArray.all (·.oneCell') = true := by rw [← hL1]; exact ints_one .u8 72 X
  have HL1 : Hid (ints .u8 72 X = L1) := hL1
  rw [hL, hL1] at hc
  have C3 : Hid (∀ w : World, Calls Try.prog 72 #[.int .i64 m, .agg L.toArray, .int .i64 c, .int .u8 (x % 256)] w fun e w' => e = .returned (.agg L1.toArray) ∧ Below w.heap.size w w') := hc
  clear hc hL1
  rw [hL, HL1.out]
  rw [hZ] at hz
  go_enter Try.func46, Try.ntmps46
  go_upto_region 1 with (fail)
  obtain ⟨B, hB⟩ : ∃ B, w.heap.size = B := ⟨_, rfl⟩
  obtain ⟨C, hC⟩ : ∃ C, B + 1 = C := ⟨_, rfl⟩
  obtain ⟨D, hD⟩ : ∃ D, C + 1 = D := ⟨_, rfl⟩
  obtain ⟨E, hE⟩ : ∃ E, D + 1 = E := ⟨_, rfl⟩
  obtain ⟨V, hV⟩ : ∃ V, (((w.alloc (.cells #[.int .i64 k, .int .i64 p, .int .i64 q, .int .i64 u, .int .i64 v, .int .i64 c, .int .i64 i, .int .i64 x] 51)).alloc (.cells #[.int .i64 p', .int .i64 q', .int .i64 u', .int .i64 v'] 49)).alloc (.cells L.toArray 39)).alloc (.cells Z 39) = V := ⟨_, rfl⟩
  have HS : Hid (Ap B C D E k p q u v c i x p' q' u' v' L w V) := by
    have a1 := Pl.new (w.alloc (.cells #[.int .i64 k, .int .i64 p, .int .i64 q, .int .i64 u, .int .i64 v, .int .i64 c, .int .i64 i, .int .i64 x] 51)) p' q' u' v' 49
    have a2 := Bk.new .u8 ((w.alloc (.cells #[.int .i64 k, .int .i64 p, .int .i64 q, .int .i64 u, .int .i64 v, .int .i64 c, .int .i64 i, .int .i64 x] 51)).alloc (.cells #[.int .i64 p', .int .i64 q', .int .i64 u', .int .i64 v'] 49)) 72 F 39
    have a3 := Bk.new .u8 (((w.alloc (.cells #[.int .i64 k, .int .i64 p, .int .i64 q, .int .i64 u, .int .i64 v, .int .i64 c, .int .i64 i, .int .i64 x] 51)).alloc (.cells #[.int .i64 p', .int .i64 q', .int .i64 u', .int .i64 v'] 49)).alloc (.cells L.toArray 39)) 72 (fun _ => 0) 39
    rw [hL] at a2
    rw [hZ] at a3
    simp only [World.size_alloc] at a1 a2 a3
    have r2 := (a2.alloc (.cells Z 39)).range
    rw [hL] at r2
    rw [← hV, ← hE, ← hD, ← hC, ← hB]
    exact ⟨(((Ft.new w k p q u v c i x _).alloc _).alloc _).alloc _, (a1.alloc _).alloc _, r2, by simp only [World.size_alloc]; omega, a3, ((((Below.refl _ w).alloc (Nat.le_refl _) _).alloc (by simp) _).alloc (by simp; omega) _).alloc (by simp; omega) _, by simp only [World.size_alloc]; omega, by omega⟩
  rw [hV, hB, hC, hD, hE]
  clear hV hC hD hE hz hZ hL
  have f0 := HS.out.f.c0; have f5 := HS.out.f.c5; have f6 := HS.out.f.c6; have f7 := HS.out.f.c7
  go_upto_region 5 with (first
      | refine wpList_load_mid rfl 51 _ rfl B 0 rfl [.int .i64 k, .int .i64 p, .int .i64 q, .int .i64 u, .int .i64 v, .int .i64 c, .int .i64 i, .int .i64 x] _ (by exact HS.out.f.range) Try.underlying51 rfl infoG ?_
      | refine wpList_load_g (by rfl) 51 _ rfl B 0 rfl [.int .i64 k, .int .i64 p, .int .i64 q, .int .i64 u, .int .i64 v, .int .i64 c, .int .i64 i, .int .i64 x] _ (by exact HS.out.f.range) Try.underlying51 rfl infoG ?_
      | refine wpList_load_g (by rfl) 49 _ rfl C 0 rfl [.int .i64 p', .int .i64 q', .int .i64 u', .int .i64 v'] _ (by exact HS.out.g.range) Try.underlying49 rfl infoQ ?_
      | refine wpList_load_mid rfl 39 _ rfl D 0 rfl L _ (by exact HS.out.r) Try.underlying39 rfl i0 ?_
      | (go_at_call 71; refine (C1.out _).mono ?_; rintro e W2 ⟨rfl, b1⟩; replace HS : Hid (Ap B C D E k p q u v c i x p' q' u' v' L w W2) := HS.out.next b1; clear b1 f0 f5 f6 f7; have f0 := HS.out.f.c0; have f5 := HS.out.f.c5; have f6 := HS.out.f.c6; have f7 := HS.out.f.c7))
  go_wp2_with (first
      | refine wpList_load_mid rfl 51 _ rfl B 0 rfl [.int .i64 k, .int .i64 p, .int .i64 q, .int .i64 u, .int .i64 v, .int .i64 c, .int .i64 i, .int .i64 x] _ (by exact HS.out.f.range) Try.underlying51 rfl infoG ?_
      | refine wpList_load_g (by rfl) 51 _ rfl B 0 rfl [.int .i64 k, .int .i64 p, .int .i64 q, .int .i64 u, .int .i64 v, .int .i64 c, .int .i64 i, .int .i64 x] _ (by exact HS.out.f.range) Try.underlying51 rfl infoG ?_
      | refine wpList_load_g (by rfl) 49 _ rfl C 0 rfl [.int .i64 p', .int .i64 q', .int .i64 u', .int .i64 v'] _ (by exact HS.out.g.range) Try.underlying49 rfl infoQ ?_
      | refine wpList_load_mid rfl 39 _ rfl D 0 rfl L _ (by exact HS.out.r) Try.underlying39 rfl i0 ?_)
  refine (C3.out _).mono ?_
  rintro e W4 ⟨rfl, b1⟩
  replace HS : Hid (Ap B C D E k p q u v c i x p' q' u' v' L w W4) := HS.out.next b1
  clear b1 f0 f5 f6 f7
  have f0 := HS.out.f.c0
  have f5 := HS.out.f.c5
  have f6 := HS.out.f.c6
  have f7 := HS.out.f.c7
  have ht : World.there W4 E 0 72 := Bk.there HS.out.e .u8 (fun _ => 0)
  have ht2 : World.there W4 E 0 L1.toArray.size := by rw [show L1.toArray.size = 72 by rw [← HL1.out]; simp [ints]]; exact ht
  have j9 : (Try.prog.info? 39).map (·.size) = some L1.toArray.size := by simpa using i1
  go_wp2_with (first | refine wpList_store_mid rfl 39 _ _ rfl E 0 L1.toArray rfl rfl ht2 j9 one1 ?_)
  have hs : (World.setCells W4 E 0 L1).rangeAt E 0 L1 := World.rangeAt_setCells_same W4 _ 0 L1 (by simpa using ht2)
  have hld := run_loadVar_mid (P := Try.prog) (World.setCells W4 E 0 L1) E 0 39 L1 _ hs Try.underlying39 rfl i1
  refine bodyPost_ret (v := .agg L1.toArray) ?_ rfl ⟨rfl, by first | exact belows_put HS.out.o _ 0 HS.out.n | (rw [hB]; exact belows_put HS.out.o _ 0 HS.out.n)⟩
  simp [results, Try.f46, Act.put, asAddr, hld]
theorem refApply_any (k p q u v c i x : Int) (p' q' u' v' : Int) (F : Nat → Int) (hF : Byts 72 F) (m n j : Int) (hm : Md m n j) (w : World) :
    Calls Try.prog 46 #[.agg #[.int .i64 k, .int .i64 p, .int .i64 q, .int .i64 u, .int .i64 v, .int .i64 c, .int .i64 i, .int .i64 x], .int .i64 m, .agg #[.int .i64 p', .int .i64 q', .int .i64 u', .int .i64 v'], .agg (ints .u8 72 F).toArray] w fun e w' => e = .returned (.agg (ints .u8 72 (apF n k p q u v c i x p' q' u' v' F)).toArray) ∧ Below w.heap.size w w' := by
  unfold apF
  by_cases h : 2 ≤ k ∧ k ≤ 5
  · have hl : ls k = true := decide_eq_true h
    cases h2 : lz k p q u v p' q' u' v' with
    | false =>
      rw [if_neg (by simp)]
      exact refApply_away k p q u v c i x p' q' u' v' F m h h2 w
    | true =>
      rw [if_pos ⟨hl, rfl⟩]
      by_cases h3 : k = 2
      · rw [if_pos h3]
        exact refApply_force k p q u v c i x p' q' u' v' F m h h2 h3 _ (fun w => refForce11_any F hF i x w) w
      · rw [if_neg h3]
        exact refApply_chip k p q u v c i x p' q' u' v' F m h h2 h3 _ (fun w => refChip_any hm F (x % 256) c w) w
  · have hl : ls k = false := decide_eq_false h
    rw [if_neg (by rw [hl]; simp)]
    by_cases h4 : k < 2
    · exact refApply_low k p q u v c i x p' q' u' v' F m h4 w
    · exact refApply_high k p q u v c i x p' q' u' v' F m (by omega) w
end Go.Proofs.Ytcpjmfemgdgplaa
