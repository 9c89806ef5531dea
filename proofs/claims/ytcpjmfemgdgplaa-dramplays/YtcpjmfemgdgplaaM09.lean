/-
  Texts of one family, one behind another: FaR4, FaR2.
-/
import Derived.Test.YtcpjmfemgdgplaaM08

/-
  The document's Apply.
-/
namespace Go.Proofs.Ytcpjmfemgdgplaa
open Go.RowKit Go.Shelf
attribute [local go_sem] Oper.semAt_some

set_option maxRecDepth 100000 in
set_option maxHeartbeats 2000000 in
theorem refApply_low (k p q u v c i x : Int) (p' q' u' v' : Int) (F : Nat → Int) (m : Int) (h : k < 2) (w : World) :
    Calls Try.prog 46 #[.agg #[.int .i64 k, .int .i64 p, .int .i64 q, .int .i64 u, .int .i64 v, .int .i64 c, .int .i64 i, .int .i64 x], .int .i64 m, .agg #[.int .i64 p', .int .i64 q', .int .i64 u', .int .i64 v'], .agg (ints .u8 72 F).toArray] w fun e w' => e = .returned (.agg (ints .u8 72 F).toArray) ∧ Below w.heap.size w w' := by
  have hz := zeroA9
  obtain ⟨L, hL⟩ : ∃ L, ints .u8 72 F = L := ⟨_, rfl⟩
  obtain ⟨Z, hZ⟩ : ∃ A, (ints .u8 72 fun _ => 0).toArray = A := ⟨_, rfl⟩
  have i0 : (Try.prog.info? 39).map (·.size) = some L.length := by rw [← hL, ints_len]; exact infoA9
  have one0 : L.toArray.all (·.oneCell') = true := by rw [← hL]; exact ints_one .u8 72 F
  have HL : Hid (ints .u8 72 F = L) := hL
  have d0 : decide (k < 2) = true := decide_eq_true h
  rw [hL]
  rw [hZ] at hz
  go_enter Try.func46, Try.ntmps46
  go_upto_region 1 with (fail)
  obtain ⟨B, hB⟩ : ∃ B, w.heap.size = B := ⟨_, rfl⟩
  obtain ⟨C, hC⟩ : ∃ C, B + 1 = C := ⟨_, rfl⟩
  obtain ⟨D, hD⟩ : ∃ D, C + 1 = D := ⟨_, rfl⟩
  obtain ⟨E, hE⟩ : ∃ E, D + 1 = E := ⟨_, rfl⟩
  obtain ⟨V, hV⟩ : ∃ V, (((w.alloc (.cells #[.int .i64 k, .int .i64 p, .int .i64 q, .int .i64 u, .int .i64 v, .int .i64 c, .int .i64 i, .int .i64 x] 51)).alloc (.cells #[.int .i64 p', .int .i64 q', .int .i64 u', .int .i64 v'] 49)).alloc (.cells L.toArray 39)).alloc (.cells Z 39) = V := ⟨_, rfl⟩
  have HS : Hid (Ap B C D E k p q u v c i x p' q' u' v' L w V) := by
    have a1 := Pl.new (w.alloc (.cells #[.int .i64 k, .int .i64 p, .int .i64 q, .int .i64 u, .int .i64 v, .int .i64 c, .int .i64 i, .int .i64 x] 51)) p' q' u' v' 49
    have a2 := Bk.new .u8 ((w.alloc (.cells #[.int .i64 k, .int .i64 p, .int .i64 q, .int .i64 u, .int .i64 v, .int .i64 c, .int .i64 i, .int .i64 x] 51)).alloc (.cells #[.int .i64 p', .int .i64 q', .int .i64 u', .int .i64 v'] 49)) 72 F 39
    have a3 := Bk.new .u8 (((w.alloc (.cells #[.int .i64 k, .int .i64 p, .int .i64 q, .int .i64 u, .int .i64 v, .int .i64 c, .int .i64 i, .int .i64 x] 51)).alloc (.cells #[.int .i64 p', .int .i64 q', .int .i64 u', .int .i64 v'] 49)).alloc (.cells L.toArray 39)) 72 (fun _ => 0) 39
    rw [hL] at a2
    rw [hZ] at a3
    simp only [World.size_alloc] at a1 a2 a3
    have r2 := (a2.alloc (.cells Z 39)).range
    rw [hL] at r2
    rw [← hV, ← hE, ← hD, ← hC, ← hB]
    exact ⟨(((Ft.new w k p q u v c i x _).alloc _).alloc _).alloc _, (a1.alloc _).alloc _, r2, by simp only [World.size_alloc]; omega, a3, ((((Below.refl _ w).alloc (Nat.le_refl _) _).alloc (by simp) _).alloc (by simp; omega) _).alloc (by simp; omega) _, by simp only [World.size_alloc]; omega, by omega⟩
  rw [hV, hB, hC, hD, hE]
  clear hV hC hD hE hz hZ hL
  have f0 := HS.out.f.c0; have f5 := HS.out.f.c5; have f6 := HS.out.f.c6; have f7 := HS.out.f.c7
  go_upto_region 2 with (first
      | refine wpList_load_mid rfl 51 _ rfl B 0 rfl [.int .i64 k, .int .i64 p, .int .i64 q, .int .i64 u, .int .i64 v, .int .i64 c, .int .i64 i, .int .i64 x] _ (by exact HS.out.f.range) Try.underlying51 rfl infoG ?_
      | refine wpList_load_g (by rfl) 51 _ rfl B 0 rfl [.int .i64 k, .int .i64 p, .int .i64 q, .int .i64 u, .int .i64 v, .int .i64 c, .int .i64 i, .int .i64 x] _ (by exact HS.out.f.range) Try.underlying51 rfl infoG ?_
      | refine wpList_load_g (by rfl) 49 _ rfl C 0 rfl [.int .i64 p', .int .i64 q', .int .i64 u', .int .i64 v'] _ (by exact HS.out.g.range) Try.underlying49 rfl infoQ ?_
      | refine wpList_load_mid rfl 39 _ rfl D 0 rfl L _ (by exact HS.out.r) Try.underlying39 rfl i0 ?_)
  have ht : World.there V E 0 72 := Bk.there HS.out.e .u8 (fun _ => 0)
  have ht2 : World.there V E 0 L.toArray.size := by rw [show L.toArray.size = 72 by rw [← HL.out]; simp [ints]]; exact ht
  have j9 : (Try.prog.info? 39).map (·.size) = some L.toArray.size := by simpa using i0
  go_wp2_with (first
      | refine wpList_load_mid rfl 51 _ rfl B 0 rfl [.int .i64 k, .int .i64 p, .int .i64 q, .int .i64 u, .int .i64 v, .int .i64 c, .int .i64 i, .int .i64 x] _ (by exact HS.out.f.range) Try.underlying51 rfl infoG ?_
      | refine wpList_load_g (by rfl) 51 _ rfl B 0 rfl [.int .i64 k, .int .i64 p, .int .i64 q, .int .i64 u, .int .i64 v, .int .i64 c, .int .i64 i, .int .i64 x] _ (by exact HS.out.f.range) Try.underlying51 rfl infoG ?_
      | refine wpList_load_g (by rfl) 49 _ rfl C 0 rfl [.int .i64 p', .int .i64 q', .int .i64 u', .int .i64 v'] _ (by exact HS.out.g.range) Try.underlying49 rfl infoQ ?_
      | refine wpList_load_mid rfl 39 _ rfl D 0 rfl L _ (by exact HS.out.r) Try.underlying39 rfl i0 ?_
      | refine wpList_store_mid rfl 39 _ _ rfl E 0 L.toArray rfl rfl ht2 j9 one0 ?_)
  have hs : (World.setCells V E 0 L).rangeAt E 0 L := World.rangeAt_setCells_same V _ 0 L (by simpa using ht2)
  have hld := run_loadVar_mid (P := Try.prog) (World.setCells V E 0 L) E 0 39 L _ hs Try.underlying39 rfl i0
  refine bodyPost_ret (v := .agg L.toArray) ?_ rfl ⟨rfl, by first | exact belows_put HS.out.o _ 0 HS.out.n | (rw [hB]; exact belows_put HS.out.o _ 0 HS.out.n)⟩
  simp [results, Try.f46, Act.put, asAddr, hld]
set_option maxRecDepth 100000 in
set_option maxHeartbeats 2000000 in
theorem refApply_high (k p q u v c i x : Int) (p' q' u' v' : Int) (F : Nat → Int) (m : Int) (h : 5 < k) (w : World) :
    Calls Try.prog 46 #[.agg #[.int .i64 k, .int .i64 p, .int .i64 q, .int .i64 u, .int .i64 v, .int .i64 c, .int .i64 i, .int .i64 x], .int .i64 m, .agg #[.int .i64 p', .int .i64 q', .int .i64 u', .int .i64 v'], .agg (ints .u8 72 F).toArray] w fun e w' => e = .returned (.agg (ints .u8 72 F).toArray) ∧ Below w.heap.size w w' := by
  have hz := zeroA9
  obtain ⟨L, hL⟩ : ∃ L, ints .u8 72 F = L := ⟨_, rfl⟩
  obtain ⟨Z, hZ⟩ : ∃ A, (ints .u8 72 fun _ => 0).toArray = A := ⟨_, rfl⟩
  have i0 : (Try.prog.info? 39).map (·.size) = some L.length := by rw [← hL, ints_len]; exact infoA9
  have one0 : L.toArray.all (·.oneCell') = true := by rw [← hL]; exact ints_one .u8 72 F
  have HL : Hid (ints .u8 72 F = L) := hL
  have d0 : decide (k < 2) = false := decide_eq_false (by omega)
  have d1 : decide (5 < k) = true := decide_eq_true h
  rw [hL]
  rw [hZ] at hz
  go_enter Try.func46, Try.ntmps46
  go_upto_region 1 with (fail)
  obtain ⟨B, hB⟩ : ∃ B, w.heap.size = B := ⟨_, rfl⟩
  obtain ⟨C, hC⟩ : ∃ C, B + 1 = C := ⟨_, rfl⟩
  obtain ⟨D, hD⟩ : ∃ D, C + 1 = D := ⟨_, rfl⟩
  obtain ⟨E, hE⟩ : ∃ E, D + 1 = E := ⟨_, rfl⟩
  obtain ⟨V, hV⟩ : ∃ V, (((w.alloc (.cells #[.int .i64 k, .int .i64 p, .int .i64 q, .int .i64 u, .int .i64 v, .int .i64 c, .int .i64 i, .int .i64 x] 51)).alloc (.cells #[.int .i64 p', .int .i64 q', .int .i64 u', .int .i64 v'] 49)).alloc (.cells L.toArray 39)).alloc (.cells Z 39) = V := ⟨_, rfl⟩
  have HS : Hid (Ap B C D E k p q u v c i x p' q' u' v' L w V) := by
    have a1 := Pl.new (w.alloc (.cells #[.int .i64 k, .int .i64 p, .int .i64 q, .int .i64 u, .int .i64 v, .int .i64 c, .int .i64 i, .int .i64 x] 51)) p' q' u' v' 49
    have a2 := Bk.new .u8 ((w.alloc (.cells #[.int .i64 k, .int .i64 p, .int .i64 q, .int .i64 u, .int .i64 v, .int .i64 c, .int .i64 i, .int .i64 x] 51)).alloc (.cells #[.int .i64 p', .int .i64 q', .int .i64 u', .int .i64 v'] 49)) 72 F 39
    have a3 := Bk.new .u8 (((w.alloc (.cells #[.int .i64 k, .int .i64 p, .int .i64 q, .int .i64 u, .int .i64 v, .int .i64 c, .int .i64 i, .int .i64 x] 51)).alloc (.cells #[.int .i64 p', .int .i64 q', .int .i64 u', .int .i64 v'] 49)).alloc (.cells L.toArray 39)) 72 (fun _ => 0) 39
    rw [hL] at a2
    rw [hZ] at a3
    simp only [World.size_alloc] at a1 a2 a3
    have r2 := (a2.alloc (.cells Z 39)).range
    rw [hL] at r2
    rw [← hV, ← hE, ← hD, ← hC, ← hB]
    exact ⟨(((Ft.new w k p q u v c i x _).alloc _).alloc _).alloc _, (a1.alloc _).alloc _, r2, by simp only [World.size_alloc]; omega, a3, ((((Below.refl _ w).alloc (Nat.le_refl _) _).alloc (by simp) _).alloc (by simp; omega) _).alloc (by simp; omega) _, by simp only [World.size_alloc]; omega, by omega⟩
  rw [hV, hB, hC, hD, hE]
  clear hV hC hD hE hz hZ hL
  have f0 := HS.out.f.c0; have f5 := HS.out.f.c5; have f6 := HS.out.f.c6; have f7 := HS.out.f.c7
  go_upto_region 2 with (first
      | refine wpList_load_mid rfl 51 _ rfl B 0 rfl [.int .i64 k, .int .i64 p, .int .i64 q, .int .i64 u, .int .i64 v, .int .i64 c, .int .i64 i, .int .i64 x] _ (by exact HS.out.f.range) Try.underlying51 rfl infoG ?_
      | refine wpList_load_g (by rfl) 51 _ rfl B 0 rfl [.int .i64 k, .int .i64 p, .int .i64 q, .int .i64 u, .int .i64 v, .int .i64 c, .int .i64 i, .int .i64 x] _ (by exact HS.out.f.range) Try.underlying51 rfl infoG ?_
      | refine wpList_load_g (by rfl) 49 _ rfl C 0 rfl [.int .i64 p', .int .i64 q', .int .i64 u', .int .i64 v'] _ (by exact HS.out.g.range) Try.underlying49 rfl infoQ ?_
      | refine wpList_load_mid rfl 39 _ rfl D 0 rfl L _ (by exact HS.out.r) Try.underlying39 rfl i0 ?_)
  have ht : World.there V E 0 72 := Bk.there HS.out.e .u8 (fun _ => 0)
  have ht2 : World.there V E 0 L.toArray.size := by rw [show L.toArray.size = 72 by rw [← HL.out]; simp [ints]]; exact ht
  have j9 : (Try.prog.info? 39).map (·.size) = some L.toArray.size := by simpa using i0
  go_wp2_with (first
      | refine wpList_load_mid rfl 51 _ rfl B 0 rfl [.int .i64 k, .int .i64 p, .int .i64 q, .int .i64 u, .int .i64 v, .int .i64 c, .int .i64 i, .int .i64 x] _ (by exact HS.out.f.range) Try.underlying51 rfl infoG ?_
      | refine wpList_load_g (by rfl) 51 _ rfl B 0 rfl [.int .i64 k, .int .i64 p, .int .i64 q, .int .i64 u, .int .i64 v, .int .i64 c, .int .i64 i, .int .i64 x] _ (by exact HS.out.f.range) Try.underlying51 rfl infoG ?_
      | refine wpList_load_g (by rfl) 49 _ rfl C 0 rfl [.int .i64 p', .int .i64 q', .int .i64 u', .int .i64 v'] _ (by exact HS.out.g.range) Try.underlying49 rfl infoQ ?_
      | refine wpList_load_mid rfl 39 _ rfl D 0 rfl L _ (by exact HS.out.r) Try.underlying39 rfl i0 ?_
      | refine wpList_store_mid rfl 39 _ _ rfl E 0 L.toArray rfl rfl ht2 j9 one0 ?_)
  have hs : (World.setCells V E 0 L).rangeAt E 0 L := World.rangeAt_setCells_same V _ 0 L (by simpa using ht2)
  have hld := run_loadVar_mid (P := Try.prog) (World.setCells V E 0 L) E 0 39 L _ hs Try.underlying39 rfl i0
  refine bodyPost_ret (v := .agg L.toArray) ?_ rfl ⟨rfl, by first | exact belows_put HS.out.o _ 0 HS.out.n | (rw [hB]; exact belows_put HS.out.o _ 0 HS.out.n)⟩
  simp [results, Try.f46, Act.put, asAddr, hld]
set_option maxRecDepth 100000 in
set_option maxHeartbeats 2000000 in
theorem refApply_away (k p q u v c i x : Int) (p' q' u' v' : Int) (F : Nat → Int) (m : Int) (h : 2 ≤ k ∧ k ≤ 5) (h2 : lz k p q u v p' q' u' v' = false) (w : World) :
    Calls Try.prog 46 #[.agg #[.int .i64 k, .int .i64 p, .int .i64 q, .int .i64 u, .int .i64 v, .int .i64 c, .int .i64 i, .int .i64 x], .int .i64 m, .agg #[.int .i64 p', .int .i64 q', .int .i64 u', .int .i64 v'], .agg (ints .u8 72 F).toArray] w fun e w' => e = .returned (.agg (ints .u8 72 F).toArray) ∧ Below w.heap.size w w' := by
  have hz := zeroA9
  obtain ⟨L, hL⟩ : ∃ L, ints .u8 72 F = L := ⟨_, rfl⟩
  obtain ⟨Z, hZ⟩ : ∃ A, (ints .u8 72 fun _ => 0).toArray = A := ⟨_, rfl⟩
  have i0 : (Try.prog.info? 39).map (·.size) = some L.length := by rw [← hL, ints_len]; exact infoA9
  have one0 : L.toArray.all (·.oneCell') = true := by rw [← hL]; exact ints_one .u8 72 F
  have HL : Hid (ints .u8 72 F = L) := hL
  have d0 : decide (k < 2) = false := decide_eq_false (by omega)
  have d1 : decide (5 < k) = false := decide_eq_false (by omega)
  have C1 : Hid (∀ w : World, Calls Try.prog 71 #[.agg #[.int .i64 k, .int .i64 p, .int .i64 q, .int .i64 u, .int .i64 v, .int .i64 c, .int .i64 i, .int .i64 x], .agg #[.int .i64 p', .int .i64 q', .int .i64 u', .int .i64 v']] w fun e w' => e = .returned (.bool false) ∧ Below w.heap.size w w') := fun w => by rw [← h2]; exact refLies_any k p q u v c i x p' q' u' v' w
  rw [hL]
  rw [hZ] at hz
  go_enter Try.func46, Try.ntmps46
  go_upto_region 1 with (fail)
  obtain ⟨B, hB⟩ : ∃ B, w.heap.size = B := ⟨_, rfl⟩
  obtain ⟨C, hC⟩ : ∃ C, B + 1 = C := ⟨_, rfl⟩
  obtain ⟨D, hD⟩ : ∃ D, C + 1 = D := ⟨_, rfl⟩
  obtain ⟨E, hE⟩ : ∃ E, D + 1 = E := ⟨_, rfl⟩
  obtain ⟨V, hV⟩ : ∃ V, (((w.alloc (.cells #[.int .i64 k, .int .i64 p, .int .i64 q, .int .i64 u, .int .i64 v, .int .i64 c, .int .i64 i, .int .i64 x] 51)).alloc (.cells #[.int .i64 p', .int .i64 q', .int .i64 u', .int .i64 v'] 49)).alloc (.cells L.toArray 39)).alloc (.cells Z 39) = V := ⟨_, rfl⟩
  have HS : Hid (Ap B C D E k p q u v c i x p' q' u' v' L w V) := by
    have a1 := Pl.new (w.alloc (.cells #[.int .i64 k, .int .i64 p, .int .i64 q, .int .i64 u, .int .i64 v, .int .i64 c, .int .i64 i, .int .i64 x] 51)) p' q' u' v' 49
    have a2 := Bk.new .u8 ((w.alloc (.cells #[.int .i64 k, .int .i64 p, .int .i64 q, .int .i64 u, .int .i64 v, .int .i64 c, .int .i64 i, .int .i64 x] 51)).alloc (.cells #[.int .i64 p', .int .i64 q', .int .i64 u', .int .i64 v'] 49)) 72 F 39
    have a3 := Bk.new .u8 (((w.alloc (.cells #[.int .i64 k, .int .i64 p, .int .i64 q, .int .i64 u, .int .i64 v, .int .i64 c, .int .i64 i, .int .i64 x] 51)).alloc (.cells #[.int .i64 p', .int .i64 q', .int .i64 u', .int .i64 v'] 49)).alloc (.cells L.toArray 39)) 72 (fun _ => 0) 39
    rw [hL] at a2
    rw [hZ] at a3
    simp only [World.size_alloc] at a1 a2 a3
    have r2 := (a2.alloc (.cells Z 39)).range
    rw [hL] at r2
    rw [← hV, ← hE, ← hD, ← hC, ← hB]
    exact ⟨(((Ft.new w k p q u v c i x _).alloc _).alloc _).alloc _, (a1.alloc _).alloc _, r2, by simp only [World.size_alloc]; omega, a3, ((((Below.refl _ w).alloc (Nat.le_refl _) _).alloc (by simp) _).alloc (by simp; omega) _).alloc (by simp; omega) _, by simp only [World.size_alloc]; omega, by omega⟩
  rw [hV, hB, hC, hD, hE]
  clear hV hC hD hE hz hZ hL
  have f0 := HS.out.f.c0; have f5 := HS.out.f.c5; have f6 := HS.out.f.c6; have f7 := HS.out.f.c7
  go_upto_region 2 with (first
      | refine wpList_load_mid rfl 51 _ rfl B 0 rfl [.int .i64 k, .int .i64 p, .int .i64 q, .int .i64 u, .int .i64 v, .int .i64 c, .int .i64 i, .int .i64 x] _ (by exact HS.out.f.range) Try.underlying51 rfl infoG ?_
      | refine wpList_load_g (by rfl) 51 _ rfl B 0 rfl [.int .i64 k, .int .i64 p, .int .i64 q, .int .i64 u, .int .i64 v, .int .i64 c, .int .i64 i, .int .i64 x] _ (by exact HS.out.f.range) Try.underlying51 rfl infoG ?_
      | refine wpList_load_g (by rfl) 49 _ rfl C 0 rfl [.int .i64 p', .int .i64 q', .int .i64 u', .int .i64 v'] _ (by exact HS.out.g.range) Try.underlying49 rfl infoQ ?_
      | refine wpList_load_mid rfl 39 _ rfl D 0 rfl L _ (by exact HS.out.r) Try.underlying39 rfl i0 ?_
      | (go_at_call 71; refine (C1.out _).mono ?_; rintro e W2 ⟨rfl, b1⟩; replace HS : Hid (Ap B C D E k p q u v c i x p' q' u' v' L w W2) := HS.out.next b1; clear b1 f0 f5 f6 f7; have f0 := HS.out.f.c0; have f5 := HS.out.f.c5; have f6 := HS.out.f.c6; have f7 := HS.out.f.c7))
  have ht : World.there W2 E 0 72 := Bk.there HS.out.e .u8 (fun _ => 0)
  have ht2 : World.there W2 E 0 L.toArray.size := by rw [show L.toArray.size = 72 by rw [← HL.out]; simp [ints]]; exact ht
  have j9 : (Try.prog.info? 39).map (·.size) = some L.toArray.size := by simpa using i0
  go_wp2_with (first
      | refine wpList_load_mid rfl 51 _ rfl B 0 rfl [.int .i64 k, .int .i64 p, .int .i64 q, .int .i64 u, .int .i64 v, .int .i64 c, .int .i64 i, .int .i64 x] _ (by exact HS.out.f.range) Try.underlying51 rfl infoG ?_
      | refine wpList_load_g (by rfl) 51 _ rfl B 0 rfl [.int .i64 k, .int .i64 p, .int .i64 q, .int .i64 u, .int .i64 v, .int .i64 c, .int .i64 i, .int .i64 x] _ (by exact HS.out.f.range) Try.underlying51 rfl infoG ?_
      | refine wpList_load_g (by rfl) 49 _ rfl C 0 rfl [.int .i64 p', .int .i64 q', .int .i64 u', .int .i64 v'] _ (by exact HS.out.g.range) Try.underlying49 rfl infoQ ?_
      | refine wpList_load_mid rfl 39 _ rfl D 0 rfl L _ (by exact HS.out.r) Try.underlying39 rfl i0 ?_
      | refine wpList_store_mid rfl 39 _ _ rfl E 0 L.toArray rfl rfl ht2 j9 one0 ?_)
  have hs : (World.setCells W2 E 0 L).rangeAt E 0 L := World.rangeAt_setCells_same W2 _ 0 L (by simpa using ht2)
  have hld := run_loadVar_mid (P := Try.prog) (World.setCells W2 E 0 L) E 0 39 L _ hs Try.underlying39 rfl i0
  refine bodyPost_ret (v := .agg L.toArray) ?_ rfl ⟨rfl, by first | exact belows_put HS.out.o _ 0 HS.out.n | (rw [hB]; exact belows_put HS.out.o _ 0 HS.out.n)⟩
  simp [results, Try.f46, Act.put, asAddr, hld]
set_option maxRecDepth 100000 in
set_option maxHeartbeats 2000000 in
theorem refApply_force (k p q u v c i x : Int) (p' q' u' v' : Int) (F : Nat → Int) (m : Int) (_h : 2 ≤ k ∧ k ≤ 5) (h2 : lz k p q u v p' q' u' v' = true) (h3 : k = 2) (X : Nat → Int) (hc : ∀ w : World, Calls Try.prog 25 #[.agg (ints .u8 72 F).toArray, .int .i64 i, .int .i64 x] w fun e w' => e = .returned (.agg (ints .u8 72 X).toArray) ∧ Below w.heap.size w w') (w : World) :
    Calls Try.prog 46 #[.agg #[.int .i64 k, .int .i64 p, .int .i64 q, .int .i64 u, .int .i64 v, .int .i64 c, .int .i64 i, .int .i64 x], .int .i64 m, .agg #[.int .i64 p', .int .i64 q', .int .i64 u', .int .i64 v'], .agg (ints .u8 72 F).toArray] w fun e w' => e = .returned (.agg (ints .u8 72 X).toArray) ∧ Below w.heap.size w w' := by
  have hz := zeroA9
  obtain ⟨L, hL⟩ : ∃ L, ints .u8 72 F = L := ⟨_, rfl⟩
  obtain ⟨Z, hZ⟩ : ∃ A, (ints .u8 72 fun _ => 0).toArray = A := ⟨_, rfl⟩
  have i0 : (Try.prog.info? 39).map (·.size) = some L.length := by rw [← hL, ints_len]; exact infoA9
  have one0 : L.toArray.all (·.oneCell') = true := by rw [← hL]; exact ints_one .u8 72 F
  have HL : Hid (ints .u8 72 F = L) := hL
  have d0 : decide (k < 2) = false := decide_eq_false (by omega)
  have d1 : decide (5 < k) = false := decide_eq_false (by omega)
  have d2 : (k == 2) = true := by simpa using h3
  clear h3
  have C1 : Hid (∀ w : World, Calls Try.prog 71 #[.agg #[.int .i64 k, .int .i64 p, .int .i64 q, .int .i64 u, .int .i64 v, .int .i64 c, .int .i64 i, .int .i64 x], .agg #[.int .i64 p', .int .i64 q', .int .i64 u', .int .i64 v']] w fun e w' => e = .returned (.bool true) ∧ Below w.heap.size w w') := fun w => by rw [← h2]; exact refLies_any k p q u v c i x p' q' u' v' w
  obtain ⟨L1, hL1⟩ : ∃ L1, ints .u8 72 X = L1 := ⟨_, rfl⟩
  have i1 : (Try.prog.info? 39).map (·.size) = some L1.length := by rw [← hL1, ints_len]; exact infoA9
  have one1 : L1.toArray.all (·.oneCell') = true := by rw [← hL1]; exact ints_one .u8 72 X
  have HL1 : Hid (ints .u8 72 X = L1) := hL1
  rw [hL, hL1] at hc
  have C3 : Hid (∀ w : World, Calls Try.prog 25 #[.agg L.toArray, .int .i64 i, .int .i64 x] w fun e w' => e = .returned (.agg L1.toArray) ∧ Below w.heap.size w w') := hc
  clear hc hL1
  rw [hL, HL1.out]
  rw [hZ] at hz
  go_enter Try.func46, Try.ntmps46
  go_upto_region 1 with (fail)
  obtain ⟨B, hB⟩ : ∃ B, w.heap.size = B := ⟨_, rfl⟩
  obtain ⟨C, hC⟩ : ∃ C, B + 1 = C := ⟨_, rfl⟩
  obtain ⟨D, hD⟩ : ∃ D, C + 1 = D := ⟨_, rfl⟩
  obtain ⟨E, hE⟩ : ∃ E, D + 1 = E := ⟨_, rfl⟩
  obtain ⟨V, hV⟩ : ∃ V, (((w.alloc (.cells #[.int .i64 k, .int .i64 p, .int .i64 q, .int .i64 u, .int .i64 v, .int .i64 c, .int .i64 i, .int .i64 x] 51)).alloc (.cells #[.int .i64 p', .int .i64 q', .int .i64 u', .int .i64 v'] 49)).alloc (.cells L.toArray 39)).alloc (.cells Z 39) = V := ⟨_, rfl⟩
  have HS : Hid (Ap B C D E k p q u v c i x p' q' u' v' L w V) := by
    have a1 := Pl.new (w.alloc (.cells #[.int .i64 k, .int .i64 p, .int .i64 q, .int .i64 u, .int .i64 v, .int .i64 c, .int .i64 i, .int .i64 x] 51)) p' q' u' v' 49
    have a2 := Bk.new .u8 ((w.alloc (.cells #[.int .i64 k, .int .i64 p, .int .i64 q, .int .i64 u, .int .i64 v, .int .i64 c, .int .i64 i, .int .i64 x] 51)).alloc (.cells #[.int .i64 p', .int .i64 q', .int .i64 u', .int .i64 v'] 49)) 72 F 39
    have a3 := Bk.new .u8 (((w.alloc (.cells #[.int .i64 k, .int .i64 p, .int .i64 q, .int .i64 u, .int .i64 v, .int .i64 c, .int .i64 i, .int .i64 x] 51)).alloc (.cells #[.int .i64 p', .int .i64 q', .int .i64 u', .int .i64 v'] 49)).alloc (.cells L.toArray 39)) 72 (fun _ => 0) 39
    rw [hL] at a2
    rw [hZ] at a3
    simp only [World.size_alloc] at a1 a2 a3
    have r2 := (a2.alloc (.cells Z 39)).range
    rw [hL] at r2
    rw [← hV, ← hE, ← hD, ← hC, ← hB]
    exact ⟨(((Ft.new w k p q u v c i x _).alloc _).alloc _).alloc _, (a1.alloc _).alloc _, r2, by simp only [World.size_alloc]; omega, a3, ((((Below.refl _ w).alloc (Nat.le_refl _) _).alloc (by simp) _).alloc (by simp; omega) _).alloc (by simp; omega) _, by simp only [World.size_alloc]; omega, by omega⟩
  rw [hV, hB, hC, hD, hE]
  clear hV hC hD hE hz hZ hL
  have f0 := HS.out.f.c0; have f5 := HS.out.f.c5; have f6 := HS.out.f.c6; have f7 := HS.out.f.c7
  go_upto_region 4 with (first
      | refine wpList_load_mid rfl 51 _ rfl B 0 rfl [.int .i64 k, .int .i64 p, .int .i64 q, .int .i64 u, .int .i64 v, .int .i64 c, .int .i64 i, .int .i64 x] _ (by exact HS.out.f.range) Try.underlying51 rfl infoG ?_
      | refine wpList_load_g (by rfl) 51 _ rfl B 0 rfl [.int .i64 k, .int .i64 p, .int .i64 q, .int .i64 u, .int .i64 v, .int .i64 c, .int .i64 i, .int .i64 x] _ (by exact HS.out.f.range) Try.underlying51 rfl infoG ?_
      | refine wpList_load_g (by rfl) 49 _ rfl C 0 rfl [.int .i64 p', .int .i64 q', .int .i64 u', .int .i64 v'] _ (by exact HS.out.g.range) Try.underlying49 rfl infoQ ?_
      | refine wpList_load_mid rfl 39 _ rfl D 0 rfl L _ (by exact HS.out.r) Try.underlying39 rfl i0 ?_
      | (go_at_call 71; refine (C1.out _).mono ?_; rintro e W2 ⟨rfl, b1⟩; replace HS : Hid (Ap B C D E k p q u v c i x p' q' u' v' L w W2) := HS.out.next b1; clear b1 f0 f5 f6 f7; have f0 := HS.out.f.c0; have f5 := HS.out.f.c5; have f6 := HS.out.f.c6; have f7 := HS.out.f.c7))
  go_wp2_with (first
      | refine wpList_load_mid rfl 51 _ rfl B 0 rfl [.int .i64 k, .int .i64 p, .int .i64 q, .int .i64 u, .int .i64 v, .int .i64 c, .int .i64 i, .int .i64 x] _ (by exact HS.out.f.range) Try.underlying51 rfl infoG ?_
      | refine wpList_load_g (by rfl) 51 _ rfl B 0 rfl [.int .i64 k, .int .i64 p, .int .i64 q, .int .i64 u, .int .i64 v, .int .i64 c, .int .i64 i, .int .i64 x] _ (by exact HS.out.f.range) Try.underlying51 rfl infoG ?_
      | refine wpList_load_g (by rfl) 49 _ rfl C 0 rfl [.int .i64 p', .int .i64 q', .int .i64 u', .int .i64 v'] _ (by exact HS.out.g.range) Try.underlying49 rfl infoQ ?_
      | refine wpList_load_mid rfl 39 _ rfl D 0 rfl L _ (by exact HS.out.r) Try.underlying39 rfl i0 ?_)
  refine (C3.out _).mono ?_
  rintro e W4 ⟨rfl, b1⟩
  replace HS : Hid (Ap B C D E k p q u v c i x p' q' u' v' L w W4) := HS.out.next b1
  clear b1 f0 f5 f6 f7
  have f0 := HS.out.f.c0
  have f5 := HS.out.f.c5
  have f6 := HS.out.f.c6
  have f7 := HS.out.f.c7
  have ht : World.there W4 E 0 72 := Bk.there HS.out.e .u8 (fun _ => 0)
  have ht2 : World.there W4 E 0 L1.toArray.size := by rw [show L1.toArray.size = 72 by rw [← HL1.out]; simp [ints]]; exact ht
  have j9 : (Try.prog.info? 39).map (·.size) = some L1.toArray.size := by simpa using i1
  go_wp2_with (first | refine wpList_store_mid rfl 39 _ _ rfl E 0 L1.toArray rfl rfl ht2 j9 one1 ?_)
  have hs : (World.setCells W4 E 0 L1).rangeAt E 0 L1 := World.rangeAt_setCells_same W4 _ 0 L1 (by simpa using ht2)
  have hld := run_loadVar_mid (P := Try.prog) (World.setCells W4 E 0 L1) E 0 39 L1 _ hs Try.underlying39 rfl i1
  refine bodyPost_ret (v := .agg L1.toArray) ?_ rfl ⟨rfl, by first | exact belows_put HS.out.o _ 0 HS.out.n | (rw [hB]; exact belows_put HS.out.o _ 0 HS.out.n)⟩
  simp [results, Try.f46, Act.put, asAddr, hld]
set_option maxRecDepth 100000 in
set_option maxHeartbeats 2000000 in
theorem refApply_chip (k p q u v c i x : Int) (p' q' u' v' : Int) (F : Nat → Int) (m : Int) (h : 2 ≤ k ∧ k ≤ 5) (h2 : lz k p q u v p' q' u' v' = true) (h3 : k ≠ 2) (X : Nat → Int) (hc : ∀ w : World, Calls Try.prog 72 #[.int .i64 m, .agg (ints .u8 72 F).toArray, .int .i64 c, .int .u8 (x % 256)] w fun e w' => e = .returned (.agg (ints .u8 72 X).toArray) ∧ Below w.heap.size w w') (w : World) :
    Calls Try.prog 46 #[.agg #[.int .i64 k, .int .i64 p, .int .i64 q, .int .i64 u, .int .i64 v, .int .i64 c, .int .i64 i, .int .i64 x], .int .i64 m, .agg #[.int .i64 p', .int .i64 q', .int .i64 u', .int .i64 v'], .agg (ints .u8 72 F).toArray] w fun e w' => e = .returned (.agg (ints .u8 72 X).toArray) ∧ Below w.heap.size w w' := by
  have hz := zeroA9
  obtain ⟨L, hL⟩ : ∃ L, ints .u8 72 F = L := ⟨_, rfl⟩
  obtain ⟨Z, hZ⟩ : ∃ A, (ints .u8 72 fun _ => 0).toArray = A := ⟨_, rfl⟩
  have i0 : (Try.prog.info? 39).map (·.size) = some L.length := by rw [← hL, ints_len]; exact infoA9
  have one0 : L.toArray.all (·.oneCell') = true := by rw [← hL]; exact ints_one .u8 72 F
  have HL : Hid (ints .u8 72 F = L) := hL
  have d0 : decide (k < 2) = false := decide_eq_false (by omega)
  have d1 : decide (5 < k) = false := decide_eq_false (by omega)
  have d2 : (k == 2) = false := by simpa using h3
  clear h3
  have C1 : Hid (∀ w : World, Calls Try.prog 71 #[.agg #[.int .i64 k, .int .i64 p, .int .i64 q, .int .i64 u, .int .i64 v, .int .i64 c, .int .i64 i, .int .i64 x], .agg #[.int .i64 p', .int .i64 q', .int .i64 u', .int .i64 v']] w fun e w' => e = .returned (.bool true) ∧ Below w.heap.size w w') := fun w => by rw [← h2]; exact refLies_any k p q u v c i x p' q' u' v' w
  obtain ⟨L1, hL1⟩ : ∃ L1, ints .u8 72 X = L1 := ⟨_, rfl⟩
  have i1 : (Try.prog.info? 39).map (·.size) = some L1.length := by rw [← hL1, ints_len]; exact infoA9
  have one1 : L1.toArray.all (·.oneCell') = true := by rw [← hL1]; exact ints_one .u8 72 X
  have HL1 : Hid (ints .u8 72 X = L1) := hL1
  rw [hL, hL1] at hc
  have C3 : Hid (∀ w : World, Calls Try.prog 72 #[.int .i64 m, .agg L.toArray, .int .i64 c, .int .u8 (x % 256)] w fun e w' => e = .returned (.agg L1.toArray) ∧ Below w.heap.size w w') := hc
  clear hc hL1
  rw [hL, HL1.out]
  rw [hZ] at hz
  go_enter Try.func46, Try.ntmps46
  go_upto_region 1 with (fail)
  obtain ⟨B, hB⟩ : ∃ B, w.heap.size = B := ⟨_, rfl⟩
  obtain ⟨C, hC⟩ : ∃ C, B + 1 = C := ⟨_, rfl⟩
  obtain ⟨D, hD⟩ : ∃ D, C + 1 = D := ⟨_, rfl⟩
  obtain ⟨E, hE⟩ : ∃ E, D + 1 = E := ⟨_, rfl⟩
  obtain ⟨V, hV⟩ : ∃ V, (((w.alloc (.cells #[.int .i64 k, .int .i64 p, .int .i64 q, .int .i64 u, .int .i64 v, .int .i64 c, .int .i64 i, .int .i64 x] 51)).alloc (.cells #[.int .i64 p', .int .i64 q', .int .i64 u', .int .i64 v'] 49)).alloc (.cells L.toArray 39)).alloc (.cells Z 39) = V := ⟨_, rfl⟩
  have HS : Hid (Ap B C D E k p q u v c i x p' q' u' v' L w V) := by
    have a1 := Pl.new (w.alloc (.cells #[.int .i64 k, .int .i64 p, .int .i64 q, .int .i64 u, .int .i64 v, .int .i64 c, .int .i64 i, .int .i64 x] 51)) p' q' u' v' 49
    have a2 := Bk.new .u8 ((w.alloc (.cells #[.int .i64 k, .int .i64 p, .int .i64 q, .int .i64 u, .int .i64 v, .int .i64 c, .int .i64 i, .int .i64 x] 51)).alloc (.cells #[.int .i64 p', .int .i64 q', .int .i64 u', .int .i64 v'] 49)) 72 F 39
    have a3 := Bk.new .u8 (((w.alloc (.cells #[.int .i64 k, .int .i64 p, .int .i64 q, .int .i64 u, .int .i64 v, .int .i64 c, .int .i64 i, .int .i64 x] 51)).alloc (.cells #[.int .i64 p', .int .i64 q', .int .i64 u', .int .i64 v'] 49)).alloc (.cells L.toArray 39)) 72 (fun _ => 0) 39
    rw [hL] at a2
    rw [hZ] at a3
    simp only [World.size_alloc] at a1 a2 a3
    have r2 := (a2.alloc (.cells Z 39)).range
    rw [hL] at r2
    rw [← hV, ← hE, ← hD, ← hC, ← hB]
    exact ⟨(((Ft.new w k p q u v c i x _).alloc _).alloc _).alloc _, (a1.alloc _).alloc _, r2, by simp only [World.size_alloc]; omega, a3, ((((Below.refl _ w).alloc (Nat.le_refl _) _).alloc (by simp) _).alloc (by simp; omega) _).alloc (by simp; omega) _, by simp only [World.size_alloc]; omega, by omega⟩
  rw [hV, hB, hC, hD, hE]
  clear hV hC hD hE hz hZ hL
  have f0 := HS.out.f.c0; have f5 := HS.out.f.c5; have f6 := HS.out.f.c6; have f7 := HS.out.f.c7
  go_upto_region 5 with (first
      | refine wpList_load_mid rfl 51 _ rfl B 0 rfl [.int .i64 k, .int .i64 p, .int .i64 q, .int .i64 u, .int .i64 v, .int .i64 c, .int .i64 i, .int .i64 x] _ (by exact HS.out.f.range) Try.underlying51 rfl infoG ?_
      | refine wpList_load_g (by rfl) 51 _ rfl B 0 rfl [.int .i64 k, .int .i64 p, .int .i64 q, .int .i64 u, .int .i64 v, .int .i64 c, .int .i64 i, .int .i64 x] _ (by exact HS.out.f.range) Try.underlying51 rfl infoG ?_
      | refine wpList_load_g (by rfl) 49 _ rfl C 0 rfl [.int .i64 p', .int .i64 q', .int .i64 u', .int .i64 v'] _ (by exact HS.out.g.range) Try.underlying49 rfl infoQ ?_
      | refine wpList_load_mid rfl 39 _ rfl D 0 rfl L _ (by exact HS.out.r) Try.underlying39 rfl i0 ?_
      | (go_at_call 71; refine (C1.out _).mono ?_; rintro e W2 ⟨rfl, b1⟩; replace HS : Hid (Ap B C D E k p q u v c i x p' q' u' v' L w W2) := HS.out.next b1; clear b1 f0 f5 f6 f7; have f0 := HS.out.f.c0; have f5 := HS.out.f.c5; have f6 := HS.out.f.c6; have f7 := HS.out.f.c7))
  go_wp2_with (first
      | refine wpList_load_mid rfl 51 _ rfl B 0 rfl [.int .i64 k, .int .i64 p, .int .i64 q, .int .i64 u, .int .i64 v, .int .i64 c, .int .i64 i, .int .i64 x] _ (by exact HS.out.f.range) Try.underlying51 rfl infoG ?_
      | refine wpList_load_g (by rfl) 51 _ rfl B 0 rfl [.int .i64 k, .int .i64 p, .int .i64 q, .int .i64 u, .int .i64 v, .int .i64 c, .int .i64 i, .int .i64 x] _ (by exact HS.out.f.range) Try.underlying51 rfl infoG ?_
      | refine wpList_load_g (by rfl) 49 _ rfl C 0 rfl [.int .i64 p', .int .i64 q', .int .i64 u', .int .i64 v'] _ (by exact HS.out.g.range) Try.underlying49 rfl infoQ ?_
      | refine wpList_load_mid rfl 39 _ rfl D 0 rfl L _ (by exact HS.out.r) Try.underlying39 rfl i0 ?_)
  refine (C3.out _).mono ?_
  rintro e W4 ⟨rfl, b1⟩
  replace HS : Hid (Ap B C D E k p q u v c i x p' q' u' v' L w W4) := HS.out.next b1
  clear b1 f0 f5 f6 f7
  have f0 := HS.out.f.c0
  have f5 := HS.out.f.c5
  have f6 := HS.out.f.c6
  have f7 := HS.out.f.c7
  have ht : World.there W4 E 0 72 := Bk.there HS.out.e .u8 (fun _ => 0)
  have ht2 : World.there W4 E 0 L1.toArray.size := by rw [show L1.toArray.size = 72 by rw [← HL1.out]; simp [ints]]; exact ht
  have j9 : (Try.prog.info? 39).map (·.size) = some L1.toArray.size := by simpa using i1
  go_wp2_with (first | refine wpList_store_mid rfl 39 _ _ rfl E 0 L1.toArray rfl rfl ht2 j9 one1 ?_)
  have hs : (World.setCells W4 E 0 L1).rangeAt E 0 L1 := World.rangeAt_setCells_same W4 _ 0 L1 (by simpa using ht2)
  have hld := run_loadVar_mid (P := Try.prog) (World.setCells W4 E 0 L1) E 0 39 L1 _ hs Try.underlying39 rfl i1
  refine bodyPost_ret (v := .agg L1.toArray) ?_ rfl ⟨rfl, by first | exact belows_put HS.out.o _ 0 HS.out.n | (rw [hB]; exact belows_put HS.out.o _ 0 HS.out.n)⟩
  simp [results, Try.f46, Act.put, asAddr, hld]
theorem refApply_any (k p q u v c i x : Int) (p' q' u' v' : Int) (F : Nat → Int) (hF : Byts 72 F) (m n j : Int) (hm : Md m n j) (w : World) :
    Calls Try.prog 46 #[.agg #[.int .i64 k, .int .i64 p, .int .i64 q, .int .i64 u, .int .i64 v, .int .i64 c, .int .i64 i, .int .i64 x], .int .i64 m, .agg #[.int .i64 p', .int .i64 q', .int .i64 u', .int .i64 v'], .agg (ints .u8 72 F).toArray] w fun e w' => e = .returned (.agg (ints .u8 72 (apF n k p q u v c i x p' q' u' v' F)).toArray) ∧ Below w.heap.size w w' := by
  unfold apF
  by_cases h : 2 ≤ k ∧ k ≤ 5
  · have hl : ls k = true := decide_eq_true h
    cases h2 : lz k p q u v p' q' u' v' with
    | false =>
      rw [if_neg (by simp)]
      exact refApply_away k p q u v c i x p' q' u' v' F m h h2 w
    | true =>
      rw [if_pos ⟨hl, rfl⟩]
      by_cases h3 : k = 2
      · rw [if_pos h3]
        exact refApply_force k p q u v c i x p' q' u' v' F m h h2 h3 _ (fun w => refForce11_any F hF i x w) w
      · rw [if_neg h3]
        exact refApply_chip k p q u v c i x p' q' u' v' F m h h2 h3 _ (fun w => refChip_any hm F (x % 256) c w) w
  · have hl : ls k = false := decide_eq_false h
    rw [if_neg (by rw [hl]; simp)]
    by_cases h4 : k < 2
    · exact refApply_low k p q u v c i x p' q' u' v' F m h4 w
    · exact refApply_high k p q u v c i x p' q' u' v' F m (by omega) w
end Go.Proofs.Ytcpjmfemgdgplaa

/-
  The document's Right.
-/
namespace Go.Proofs.Ytcpjmfemgdgplaa
open Go.RowKit Go.Shelf
open Ge (pw rt hd ix)
attribute [local go_sem] Oper.semAt_some

theorem rtF_iff (n : Int) (h : Bool) (k p q u v c i x : Int) : rtF n h k p q u v c i x = true ↔ (h = true ∧ (1 ≤ k ∧ k ≤ 7 ∧ 0 ≤ c ∧ c < n ∧ 0 ≤ i ∧ i < 576 ∧ 0 ≤ x ∧ x < 256 ∧ (k ≠ 1 ∨ (c = 0 ∧ x = 0)) ∧ (k ≠ 2 ∨ (c = 0 ∧ x ≤ 1)) ∧ (k ≠ 3 ∨ (i = 0 ∧ v = 0)) ∧ (k ≠ 4 ∨ (i = 0 ∧ u = 0)) ∧ (k ≠ 5 ∨ (i = 0 ∧ q = 0 ∧ u = 0 ∧ v = 0)) ∧ (k ≠ 6 ∨ (c = 0 ∧ i = 0 ∧ x = 0)) ∧ (k ≠ 7 ∨ (p = 0 ∧ q = 0 ∧ u = 0 ∧ v = 0 ∧ c = 0 ∧ i = 0 ∧ x = 0)))) := by
  unfold rtF rtP kOk
  simp
theorem rtF_no {n : Int} {h : Bool} {k p q u v c i x : Int} (e : ¬ (1 ≤ k ∧ k ≤ 7 ∧ 0 ≤ c ∧ c < n ∧ 0 ≤ i ∧ i < 576 ∧ 0 ≤ x ∧ x < 256 ∧ (k ≠ 1 ∨ (c = 0 ∧ x = 0)) ∧ (k ≠ 2 ∨ (c = 0 ∧ x ≤ 1)) ∧ (k ≠ 3 ∨ (i = 0 ∧ v = 0)) ∧ (k ≠ 4 ∨ (i = 0 ∧ u = 0)) ∧ (k ≠ 5 ∨ (i = 0 ∧ q = 0 ∧ u = 0 ∧ v = 0)) ∧ (k ≠ 6 ∨ (c = 0 ∧ i = 0 ∧ x = 0)) ∧ (k ≠ 7 ∨ (p = 0 ∧ q = 0 ∧ u = 0 ∧ v = 0 ∧ c = 0 ∧ i = 0 ∧ x = 0)))) : rtF n h k p q u v c i x = false := by
  rw [Bool.eq_false_iff, ne_eq, rtF_iff]; exact fun y => e y.2
theorem rtF_out {n : Int} {k p q u v c i x : Int} : rtF n false k p q u v c i x = false := by
  rw [Bool.eq_false_iff, ne_eq, rtF_iff]; exact fun y => by cases y.1
theorem rtF_yes {n : Int} {k p q u v c i x : Int} (e : 1 ≤ k ∧ k ≤ 7 ∧ 0 ≤ c ∧ c < n ∧ 0 ≤ i ∧ i < 576 ∧ 0 ≤ x ∧ x < 256 ∧ (k ≠ 1 ∨ (c = 0 ∧ x = 0)) ∧ (k ≠ 2 ∨ (c = 0 ∧ x ≤ 1)) ∧ (k ≠ 3 ∨ (i = 0 ∧ v = 0)) ∧ (k ≠ 4 ∨ (i = 0 ∧ u = 0)) ∧ (k ≠ 5 ∨ (i = 0 ∧ q = 0 ∧ u = 0 ∧ v = 0)) ∧ (k ≠ 6 ∨ (c = 0 ∧ i = 0 ∧ x = 0)) ∧ (k ≠ 7 ∨ (p = 0 ∧ q = 0 ∧ u = 0 ∧ v = 0 ∧ c = 0 ∧ i = 0 ∧ x = 0))) : rtF n true k p q u v c i x = true := (rtF_iff _ _ _ _ _ _ _ _ _ _).2 ⟨rfl, e⟩
theorem infoRG : (Try.prog.info? 30).map (·.size) = some 5 := by kernel_rfl

set_option maxRecDepth 100000 in
set_option maxHeartbeats 4000000 in
theorem refRF_bad (k p q u v c i x : Int) (r s b o d m n j : Int) (hm : Md m n j) (hr : I64 r) (hb : I64 b) (ho : I64 o) (hd9 : I64 d) (y : Bool) (hy : hd r s b o d p q u v = y) (hG : y = false ∨ ¬ (1 ≤ k ∧ k ≤ 7 ∧ 0 ≤ c ∧ c < n ∧ 0 ≤ i ∧ i < 576 ∧ 0 ≤ x ∧ x < 256)) (w : World) :
    Calls Try.prog 66 #[.agg #[.int .i64 k, .int .i64 p, .int .i64 q, .int .i64 u, .int .i64 v, .int .i64 c, .int .i64 i, .int .i64 x], .agg #[.int .i64 r, .int .i64 s, .int .i64 b, .int .i64 o, .int .i64 d], .int .i64 m] w fun e w' => e = .returned (.bool false) ∧ Below w.heap.size w w' := by
  have hn : 0 ≤ n := by rcases hm with ⟨_, rfl, _⟩ | ⟨_, rfl, _⟩ | ⟨_, _, rfl, _⟩ <;> omega
  have CC : Hid (∀ w : World, Calls Try.prog 52 #[.int .i64 m] w fun e w' => e = .returned (.int .i64 n) ∧ w' = w) := fun w => refChips_any hm w
  have HH : Hid (∀ w : World, Calls Try.prog 43 #[.agg #[.int .i64 r, .int .i64 s, .int .i64 b, .int .i64 o, .int .i64 d], .agg #[.int .i64 p, .int .i64 q, .int .i64 u, .int .i64 v]] w fun e w' => e = .returned (.bool y) ∧ Below w.heap.size w w') := fun w => by rw [← hy]; exact refHolds_any r s b o d p q u v hr hb ho hd9 w
  clear hm hr hb ho hd9 hy
  go_enter Try.func66, Try.ntmps66
  go_upto_region 1 with (fail)
  obtain ⟨B, hB⟩ : ∃ B, w.heap.size = B := ⟨_, rfl⟩
  obtain ⟨C, hC⟩ : ∃ C, B + 1 = C := ⟨_, rfl⟩
  obtain ⟨V, hV⟩ : ∃ V, (w.alloc (.cells #[.int .i64 k, .int .i64 p, .int .i64 q, .int .i64 u, .int .i64 v, .int .i64 c, .int .i64 i, .int .i64 x] 51)).alloc (.cells #[.int .i64 r, .int .i64 s, .int .i64 b, .int .i64 o, .int .i64 d] 30) = V := ⟨_, rfl⟩
  have HS : Hid (Rg B C k p q u v c i x r s b o d w V) := by
    rw [← hV, ← hC, ← hB]
    have h1 := Gm.new (w.alloc (.cells #[.int .i64 k, .int .i64 p, .int .i64 q, .int .i64 u, .int .i64 v, .int .i64 c, .int .i64 i, .int .i64 x] 51)) r s b o d 30
    simp only [World.size_alloc] at h1
    exact ⟨(Ft.new w k p q u v c i x _).alloc _, h1, ((Below.refl _ w).alloc (Nat.le_refl _) _).alloc (by simp) _, by simp only [World.size_alloc]; omega⟩
  rw [hV, hB, hC]
  clear hV hC
  have f0 := HS.out.f.c0; have f5 := HS.out.f.c5; have f6 := HS.out.f.c6; have f7 := HS.out.f.c7
  go_wp2_with fail
  refine (CC.out _).mono ?_
  rintro e W0 ⟨rfl, rfl⟩
  by_cases a0 : n = 0
  · have e0 : (n == 0) = true := by simpa using a0
    go_wp2
    go_ret
    exact ⟨rfl, by first | exact HS.out.n | (rw [hB]; exact HS.out.n)⟩
  have e0 : (n == 0) = false := by simpa using a0
  by_cases a1 : k < 1
  · have e1 : decide (k < 1) = true := decide_eq_true a1
    go_wp2
    go_ret
    exact ⟨rfl, by first | exact HS.out.n | (rw [hB]; exact HS.out.n)⟩
  have e1 : decide (k < 1) = false := decide_eq_false a1
  by_cases a2 : 7 < k
  · have e2 : decide (7 < k) = true := decide_eq_true a2
    go_wp2
    go_ret
    exact ⟨rfl, by first | exact HS.out.n | (rw [hB]; exact HS.out.n)⟩
  have e2 : decide (7 < k) = false := decide_eq_false a2
  go_wp2_with (first | refine wpList_load_g (by rfl) 30 _ rfl C 0 rfl [.int .i64 r, .int .i64 s, .int .i64 b, .int .i64 o, .int .i64 d] _ (by exact Bk.range HS.out.g) Try.underlying30 rfl infoRG ?_ | refine wpList_load_g (by rfl) 49 _ rfl B 1 rfl [.int .i64 p, .int .i64 q, .int .i64 u, .int .i64 v] _ (by exact HS.out.f.place) Try.underlying49 rfl infoQ ?_)
  refine (HH.out _).mono ?_
  rintro e W1 ⟨rfl, b1⟩
  replace HS : Hid (Rg B C k p q u v c i x r s b o d w W1) := HS.out.next b1
  clear f0 f5 f6 f7 b1
  have f0 := HS.out.f.c0; have f5 := HS.out.f.c5; have f6 := HS.out.f.c6; have f7 := HS.out.f.c7
  cases y with
  | false =>
    go_wp2
    go_ret
    exact ⟨rfl, by first | exact HS.out.n | (rw [hB]; exact HS.out.n)⟩
  | true =>
    by_cases a3 : c < 0
    · have e3 : decide (c < 0) = true := decide_eq_true a3
      go_wp2
      go_ret
      exact ⟨rfl, by first | exact HS.out.n | (rw [hB]; exact HS.out.n)⟩
    have e3 : decide (c < 0) = false := decide_eq_false a3
    by_cases a4 : n ≤ c
    · have e4 : decide (n ≤ c) = true := decide_eq_true a4
      go_wp2
      go_ret
      exact ⟨rfl, by first | exact HS.out.n | (rw [hB]; exact HS.out.n)⟩
    have e4 : decide (n ≤ c) = false := decide_eq_false a4
    by_cases a5 : i < 0
    · have e5 : decide (i < 0) = true := decide_eq_true a5
      go_wp2
      go_ret
      exact ⟨rfl, by first | exact HS.out.n | (rw [hB]; exact HS.out.n)⟩
    have e5 : decide (i < 0) = false := decide_eq_false a5
    by_cases a6 : 575 < i
    · have e6 : decide (575 < i) = true := decide_eq_true a6
      go_wp2
      go_ret
      exact ⟨rfl, by first | exact HS.out.n | (rw [hB]; exact HS.out.n)⟩
    have e6 : decide (575 < i) = false := decide_eq_false a6
    by_cases a7 : x < 0
    · have e7 : decide (x < 0) = true := decide_eq_true a7
      go_wp2
      go_ret
      exact ⟨rfl, by first | exact HS.out.n | (rw [hB]; exact HS.out.n)⟩
    have e7 : decide (x < 0) = false := decide_eq_false a7
    by_cases a8 : 255 < x
    · have e8 : decide (255 < x) = true := decide_eq_true a8
      go_wp2
      go_ret
      exact ⟨rfl, by first | exact HS.out.n | (rw [hB]; exact HS.out.n)⟩
    have e8 : decide (255 < x) = false := decide_eq_false a8
    rcases hG with h9 | h9
    · cases h9
    · exact absurd ⟨by omega, by omega, by omega, by omega, by omega, by omega, by omega, by omega⟩ h9
end Go.Proofs.Ytcpjmfemgdgplaa
