/-
  Texts of one family, one behind another: FaW7, FaR1.
-/
import Derived.Test.YtcpjmfemgdgplaaM06
import Derived.Test.YtcpjmfemgdgplaaM07

/-
  The walks of package fault: what is read with a fault.
-/
namespace Go.Proofs.Ytcpjmfemgdgplaa
open Go.RowKit Go.Shelf
attribute [local go_sem] Oper.semAt_some

/-- a bit forced, if it is there -/
def frc (F : Nat → Int) (i x : Int) : Nat → Int := if 0 ≤ i ∧ i < 576 then frR F i.toNat (x % 2).toNat else F
theorem force_any (F : Nat → Int) (hF : Byts 72 F) (i x : Int) (hi : i ≤ 9223372036854775807) (w : World) :
    Calls Try.prog 61 #[.agg (ints .u8 72 F).toArray, .int .i64 i, .int .i64 x] w fun e w' => e = .returned (.agg (ints .u8 72 (frc F i x)).toArray) ∧ Below w.heap.size w w' := by
  unfold frc
  by_cases h : 0 ≤ i ∧ i < 576
  · obtain ⟨j, rfl⟩ := Int.eq_ofNat_of_zero_le h.1
    rw [if_pos h, Int.toNat_natCast]
    exact forceR_yes F hF j (by omega) x _ (by rw [i64_and1r]; omega) (by omega) w
  · rw [if_neg h]
    exact forceR_no F hF i (by omega) hi x w
theorem refForce11_any (F : Nat → Int) (hF : Byts 72 F) (i x : Int) (w : World) :
    Calls Try.prog 25 #[.agg (ints .u8 72 F).toArray, .int .i64 i, .int .i64 x] w fun e w' => e = .returned (.agg (ints .u8 72 (frc F i x)).toArray) ∧ Below w.heap.size w w' := by
  unfold frc
  by_cases h : 0 ≤ i ∧ i < 576
  · obtain ⟨j, rfl⟩ := Int.eq_ofNat_of_zero_le h.1
    rw [if_pos h, Int.toNat_natCast]
    exact refForce_yes F hF j (by omega) x _ (by rw [i64_and1r]; omega) (by omega) w
  · rw [if_neg h]
    exact refForce_no F i x (by omega) w
/-- what is read with a fault -/
def apF (n : Int) (k p q u v c i x p' q' u' v' : Int) (F : Nat → Int) : Nat → Int :=
  if ls k = true ∧ lz k p q u v p' q' u' v' = true then (if k = 2 then frc F i x else Rw.chp n.toNat c F (x % 256)) else F
/-- what Apply works on -/
structure Ap (B C D E : Nat) (k p q u v c i x : Int) (p' q' u' v' : Int) (L : List Value) (w W : World) : Prop where
  f : Ft W B k p q u v c i x
  g : Pl W C p' q' u' v'
  r : W.rangeAt D 0 L
  rl : D < W.heap.size
  e : Bk .u8 W E 72 fun _ => 0
  n : Below B w W
  l : B ≤ W.heap.size
  o : B ≤ E
theorem Ap.next {B C D E : Nat} {k p q u v c i x : Int} {p' q' u' v' : Int} {L : List Value} {w W W' : World} (h : Ap B C D E k p q u v c i x p' q' u' v' L w W) (e : Below W.heap.size W W') : Ap B C D E k p q u v c i x p' q' u' v' L w W' :=
  ⟨h.f.next e, h.g.next e, fun j y hy => (e.cell (p := ⟨D, 0 + j, none⟩) h.rl).trans (h.r j y hy), Nat.lt_of_lt_of_le h.rl e.size, h.e.next e, h.n.trans (e.mono h.l), Nat.le_trans h.l e.size, h.o⟩

set_option maxRecDepth 100000 in
set_option maxHeartbeats 2000000 in
theorem apply_off (k p q u v c i x : Int) (p' q' u' v' : Int) (F : Nat → Int) (m : Int) (h : ls k = false) (w : World) :
    Calls Try.prog 32 #[.agg #[.int .i64 k, .int .i64 p, .int .i64 q, .int .i64 u, .int .i64 v, .int .i64 c, .int .i64 i, .int .i64 x], .int .i64 m, .agg #[.int .i64 p', .int .i64 q', .int .i64 u', .int .i64 v'], .agg (ints .u8 72 F).toArray] w fun e w' => e = .returned (.agg (ints .u8 72 F).toArray) ∧ Below w.heap.size w w' := by
  have hz := zeroR
  obtain ⟨L, hL⟩ : ∃ L, ints .u8 72 F = L := ⟨_, rfl⟩
  obtain ⟨Z, hZ⟩ : ∃ A, (ints .u8 72 fun _ => 0).toArray = A := ⟨_, rfl⟩
  have i0 : (Try.prog.info? 40).map (·.size) = some L.length := by rw [← hL, ints_len]; exact infoR
  have one0 : L.toArray.all (·.oneCell') = true := by rw [← hL]; exact ints_one .u8 72 F
  have HL : Hid (ints .u8 72 F = L) := hL
  have C0 : Hid (∀ w : World, Calls Try.prog 27 #[.agg #[.int .i64 k, .int .i64 p, .int .i64 q, .int .i64 u, .int .i64 v, .int .i64 c, .int .i64 i, .int .i64 x]] w fun e w' => e = .returned (.bool false) ∧ Below w.heap.size w w') := fun w => by rw [← h]; exact lasts_any k p q u v c i x w
  rw [hL]
  rw [hZ] at hz
  go_enter Try.func32, Try.ntmps32
  go_upto_region 1 with (fail)
  obtain ⟨B, hB⟩ : ∃ B, w.heap.size = B := ⟨_, rfl⟩
  obtain ⟨C, hC⟩ : ∃ C, B + 1 = C := ⟨_, rfl⟩
  obtain ⟨D, hD⟩ : ∃ D, C + 1 = D := ⟨_, rfl⟩
  obtain ⟨E, hE⟩ : ∃ E, D + 1 = E := ⟨_, rfl⟩
  obtain ⟨V, hV⟩ : ∃ V, (((w.alloc (.cells #[.int .i64 k, .int .i64 p, .int .i64 q, .int .i64 u, .int .i64 v, .int .i64 c, .int .i64 i, .int .i64 x] 38)).alloc (.cells #[.int .i64 p', .int .i64 q', .int .i64 u', .int .i64 v'] 36)).alloc (.cells L.toArray 40)).alloc (.cells Z 40) = V := ⟨_, rfl⟩
  have HS : Hid (Ap B C D E k p q u v c i x p' q' u' v' L w V) := by
    have a1 := Pl.new (w.alloc (.cells #[.int .i64 k, .int .i64 p, .int .i64 q, .int .i64 u, .int .i64 v, .int .i64 c, .int .i64 i, .int .i64 x] 38)) p' q' u' v' 36
    have a2 := Bk.new .u8 ((w.alloc (.cells #[.int .i64 k, .int .i64 p, .int .i64 q, .int .i64 u, .int .i64 v, .int .i64 c, .int .i64 i, .int .i64 x] 38)).alloc (.cells #[.int .i64 p', .int .i64 q', .int .i64 u', .int .i64 v'] 36)) 72 F 40
    have a3 := Bk.new .u8 (((w.alloc (.cells #[.int .i64 k, .int .i64 p, .int .i64 q, .int .i64 u, .int .i64 v, .int .i64 c, .int .i64 i, .int .i64 x] 38)).alloc (.cells #[.int .i64 p', .int .i64 q', .int .i64 u', .int .i64 v'] 36)).alloc (.cells L.toArray 40)) 72 (fun _ => 0) 40
    rw [hL] at a2
    rw [hZ] at a3
    simp only [World.size_alloc] at a1 a2 a3
    have r2 := (a2.alloc (.cells Z 40)).range
    rw [hL] at r2
    rw [← hV, ← hE, ← hD, ← hC, ← hB]
    exact ⟨(((Ft.new w k p q u v c i x _).alloc _).alloc _).alloc _, (a1.alloc _).alloc _, r2, by simp only [World.size_alloc]; omega, a3, ((((Below.refl _ w).alloc (Nat.le_refl _) _).alloc (by simp) _).alloc (by simp; omega) _).alloc (by simp; omega) _, by simp only [World.size_alloc]; omega, by omega⟩
  rw [hV, hB, hC, hD, hE]
  clear hV hC hD hE hz hZ hL
  have f0 := HS.out.f.c0; have f5 := HS.out.f.c5; have f6 := HS.out.f.c6; have f7 := HS.out.f.c7
  go_upto_region 2 with (first
      | refine wpList_load_mid rfl 38 _ rfl B 0 rfl [.int .i64 k, .int .i64 p, .int .i64 q, .int .i64 u, .int .i64 v, .int .i64 c, .int .i64 i, .int .i64 x] _ (by exact HS.out.f.range) Try.underlying38 rfl infoF ?_
      | refine wpList_load_g (by rfl) 38 _ rfl B 0 rfl [.int .i64 k, .int .i64 p, .int .i64 q, .int .i64 u, .int .i64 v, .int .i64 c, .int .i64 i, .int .i64 x] _ (by exact HS.out.f.range) Try.underlying38 rfl infoF ?_
      | refine wpList_load_g (by rfl) 36 _ rfl C 0 rfl [.int .i64 p', .int .i64 q', .int .i64 u', .int .i64 v'] _ (by exact HS.out.g.range) Try.underlying36 rfl infoP ?_
      | refine wpList_load_mid rfl 40 _ rfl D 0 rfl L _ (by exact HS.out.r) Try.underlying40 rfl i0 ?_
      | (go_at_call 27; refine (C0.out _).mono ?_; rintro e W1 ⟨rfl, b1⟩; replace HS : Hid (Ap B C D E k p q u v c i x p' q' u' v' L w W1) := HS.out.next b1; clear b1 f0 f5 f6 f7; have f0 := HS.out.f.c0; have f5 := HS.out.f.c5; have f6 := HS.out.f.c6; have f7 := HS.out.f.c7))
  have ht : World.there W1 E 0 72 := Bk.there HS.out.e .u8 (fun _ => 0)
  have ht2 : World.there W1 E 0 L.toArray.size := by rw [show L.toArray.size = 72 by rw [← HL.out]; simp [ints]]; exact ht
  have j9 : (Try.prog.info? 40).map (·.size) = some L.toArray.size := by simpa using i0
  go_wp2_with (first
      | refine wpList_load_mid rfl 38 _ rfl B 0 rfl [.int .i64 k, .int .i64 p, .int .i64 q, .int .i64 u, .int .i64 v, .int .i64 c, .int .i64 i, .int .i64 x] _ (by exact HS.out.f.range) Try.underlying38 rfl infoF ?_
      | refine wpList_load_g (by rfl) 38 _ rfl B 0 rfl [.int .i64 k, .int .i64 p, .int .i64 q, .int .i64 u, .int .i64 v, .int .i64 c, .int .i64 i, .int .i64 x] _ (by exact HS.out.f.range) Try.underlying38 rfl infoF ?_
      | refine wpList_load_g (by rfl) 36 _ rfl C 0 rfl [.int .i64 p', .int .i64 q', .int .i64 u', .int .i64 v'] _ (by exact HS.out.g.range) Try.underlying36 rfl infoP ?_
      | refine wpList_load_mid rfl 40 _ rfl D 0 rfl L _ (by exact HS.out.r) Try.underlying40 rfl i0 ?_
      | refine wpList_store_mid rfl 40 _ _ rfl E 0 L.toArray rfl rfl ht2 j9 one0 ?_)
  have hs : (World.setCells W1 E 0 L).rangeAt E 0 L := World.rangeAt_setCells_same W1 _ 0 L (by simpa using ht2)
  have hld := run_loadVar_mid (P := Try.prog) (World.setCells W1 E 0 L) E 0 40 L _ hs Try.underlying40 rfl i0
  refine bodyPost_ret (v := .agg L.toArray) ?_ rfl ⟨rfl, by first | exact belows_put HS.out.o _ 0 HS.out.n | (rw [hB]; exact belows_put HS.out.o _ 0 HS.out.n)⟩
  simp [results, Try.f32, Act.put, asAddr, hld]
set_option maxRecDepth 100000 in
set_option maxHeartbeats 2000000 in
theorem apply_away (k p q u v c i x : Int) (p' q' u' v' : Int) (F : Nat → Int) (m : Int) (h : ls k = true) (h2 : lz k p q u v p' q' u' v' = false) (w : World) :
    Calls Try.prog 32 #[.agg #[.int .i64 k, .int .i64 p, .int .i64 q, .int .i64 u, .int .i64 v, .int .i64 c, .int .i64 i, .int .i64 x], .int .i64 m, .agg #[.int .i64 p', .int .i64 q', .int .i64 u', .int .i64 v'], .agg (ints .u8 72 F).toArray] w fun e w' => e = .returned (.agg (ints .u8 72 F).toArray) ∧ Below w.heap.size w w' := by
  have hz := zeroR
  obtain ⟨L, hL⟩ : ∃ L, ints .u8 72 F = L := ⟨_, rfl⟩
  obtain ⟨Z, hZ⟩ : ∃ A, (ints .u8 72 fun _ => 0).toArray = A := ⟨_, rfl⟩
  have i0 : (Try.prog.info? 40).map (·.size) = some L.length := by rw [← hL, ints_len]; exact infoR
  have one0 : L.toArray.all (·.oneCell') = true := by rw [← hL]; exact ints_one .u8 72 F
  have HL : Hid (ints .u8 72 F = L) := hL
  have C0 : Hid (∀ w : World, Calls Try.prog 27 #[.agg #[.int .i64 k, .int .i64 p, .int .i64 q, .int .i64 u, .int .i64 v, .int .i64 c, .int .i64 i, .int .i64 x]] w fun e w' => e = .returned (.bool true) ∧ Below w.heap.size w w') := fun w => by rw [← h]; exact lasts_any k p q u v c i x w
  have C1 : Hid (∀ w : World, Calls Try.prog 29 #[.agg #[.int .i64 k, .int .i64 p, .int .i64 q, .int .i64 u, .int .i64 v, .int .i64 c, .int .i64 i, .int .i64 x], .agg #[.int .i64 p', .int .i64 q', .int .i64 u', .int .i64 v']] w fun e w' => e = .returned (.bool false) ∧ Below w.heap.size w w') := fun w => by rw [← h2]; exact lies_any k p q u v c i x p' q' u' v' w
  rw [hL]
  rw [hZ] at hz
  go_enter Try.func32, Try.ntmps32
  go_upto_region 1 with (fail)
  obtain ⟨B, hB⟩ : ∃ B, w.heap.size = B := ⟨_, rfl⟩
  obtain ⟨C, hC⟩ : ∃ C, B + 1 = C := ⟨_, rfl⟩
  obtain ⟨D, hD⟩ : ∃ D, C + 1 = D := ⟨_, rfl⟩
  obtain ⟨E, hE⟩ : ∃ E, D + 1 = E := ⟨_, rfl⟩
  obtain ⟨V, hV⟩ : ∃ V, (((w.alloc (.cells #[.int .i64 k, .int .i64 p, .int .i64 q, .int .i64 u, .int .i64 v, .int .i64 c, .int .i64 i, .int .i64 x] 38)).alloc (.cells #[.int .i64 p', .int .i64 q', .int .i64 u', .int .i64 v'] 36)).alloc (.cells L.toArray 40)).alloc (.cells Z 40) = V := ⟨_, rfl⟩
  have HS : Hid (Ap B C D E k p q u v c i x p' q' u' v' L w V) := by
    have a1 := Pl.new (w.alloc (.cells #[.int .i64 k, .int .i64 p, .int .i64 q, .int .i64 u, .int .i64 v, .int .i64 c, .int .i64 i, .int .i64 x] 38)) p' q' u' v' 36
    have a2 := Bk.new .u8 ((w.alloc (.cells #[.int .i64 k, .int .i64 p, .int .i64 q, .int .i64 u, .int .i64 v, .int .i64 c, .int .i64 i, .int .i64 x] 38)).alloc (.cells #[.int .i64 p', .int .i64 q', .int .i64 u', .int .i64 v'] 36)) 72 F 40
    have a3 := Bk.new .u8 (((w.alloc (.cells #[.int .i64 k, .int .i64 p, .int .i64 q, .int .i64 u, .int .i64 v, .int .i64 c, .int .i64 i, .int .i64 x] 38)).alloc (.cells #[.int .i64 p', .int .i64 q', .int .i64 u', .int .i64 v'] 36)).alloc (.cells L.toArray 40)) 72 (fun _ => 0) 40
    rw [hL] at a2
    rw [hZ] at a3
    simp only [World.size_alloc] at a1 a2 a3
    have r2 := (a2.alloc (.cells Z 40)).range
    rw [hL] at r2
    rw [← hV, ← hE, ← hD, ← hC, ← hB]
    exact ⟨(((Ft.new w k p q u v c i x _).alloc _).alloc _).alloc _, (a1.alloc _).alloc _, r2, by simp only [World.size_alloc]; omega, a3, ((((Below.refl _ w).alloc (Nat.le_refl _) _).alloc (by simp) _).alloc (by simp; omega) _).alloc (by simp; omega) _, by simp only [World.size_alloc]; omega, by omega⟩
  rw [hV, hB, hC, hD, hE]
  clear hV hC hD hE hz hZ hL
  have f0 := HS.out.f.c0; have f5 := HS.out.f.c5; have f6 := HS.out.f.c6; have f7 := HS.out.f.c7
  go_upto_region 2 with (first
      | refine wpList_load_mid rfl 38 _ rfl B 0 rfl [.int .i64 k, .int .i64 p, .int .i64 q, .int .i64 u, .int .i64 v, .int .i64 c, .int .i64 i, .int .i64 x] _ (by exact HS.out.f.range) Try.underlying38 rfl infoF ?_
      | refine wpList_load_g (by rfl) 38 _ rfl B 0 rfl [.int .i64 k, .int .i64 p, .int .i64 q, .int .i64 u, .int .i64 v, .int .i64 c, .int .i64 i, .int .i64 x] _ (by exact HS.out.f.range) Try.underlying38 rfl infoF ?_
      | refine wpList_load_g (by rfl) 36 _ rfl C 0 rfl [.int .i64 p', .int .i64 q', .int .i64 u', .int .i64 v'] _ (by exact HS.out.g.range) Try.underlying36 rfl infoP ?_
      | refine wpList_load_mid rfl 40 _ rfl D 0 rfl L _ (by exact HS.out.r) Try.underlying40 rfl i0 ?_
      | (go_at_call 27; refine (C0.out _).mono ?_; rintro e W1 ⟨rfl, b1⟩; replace HS : Hid (Ap B C D E k p q u v c i x p' q' u' v' L w W1) := HS.out.next b1; clear b1 f0 f5 f6 f7; have f0 := HS.out.f.c0; have f5 := HS.out.f.c5; have f6 := HS.out.f.c6; have f7 := HS.out.f.c7)
      | (go_at_call 29; refine (C1.out _).mono ?_; rintro e W2 ⟨rfl, b1⟩; replace HS : Hid (Ap B C D E k p q u v c i x p' q' u' v' L w W2) := HS.out.next b1; clear b1 f0 f5 f6 f7; have f0 := HS.out.f.c0; have f5 := HS.out.f.c5; have f6 := HS.out.f.c6; have f7 := HS.out.f.c7))
  have ht : World.there W2 E 0 72 := Bk.there HS.out.e .u8 (fun _ => 0)
  have ht2 : World.there W2 E 0 L.toArray.size := by rw [show L.toArray.size = 72 by rw [← HL.out]; simp [ints]]; exact ht
  have j9 : (Try.prog.info? 40).map (·.size) = some L.toArray.size := by simpa using i0
  go_wp2_with (first
      | refine wpList_load_mid rfl 38 _ rfl B 0 rfl [.int .i64 k, .int .i64 p, .int .i64 q, .int .i64 u, .int .i64 v, .int .i64 c, .int .i64 i, .int .i64 x] _ (by exact HS.out.f.range) Try.underlying38 rfl infoF ?_
      | refine wpList_load_g (by rfl) 38 _ rfl B 0 rfl [.int .i64 k, .int .i64 p, .int .i64 q, .int .i64 u, .int .i64 v, .int .i64 c, .int .i64 i, .int .i64 x] _ (by exact HS.out.f.range) Try.underlying38 rfl infoF ?_
      | refine wpList_load_g (by rfl) 36 _ rfl C 0 rfl [.int .i64 p', .int .i64 q', .int .i64 u', .int .i64 v'] _ (by exact HS.out.g.range) Try.underlying36 rfl infoP ?_
      | refine wpList_load_mid rfl 40 _ rfl D 0 rfl L _ (by exact HS.out.r) Try.underlying40 rfl i0 ?_
      | refine wpList_store_mid rfl 40 _ _ rfl E 0 L.toArray rfl rfl ht2 j9 one0 ?_)
  have hs : (World.setCells W2 E 0 L).rangeAt E 0 L := World.rangeAt_setCells_same W2 _ 0 L (by simpa using ht2)
  have hld := run_loadVar_mid (P := Try.prog) (World.setCells W2 E 0 L) E 0 40 L _ hs Try.underlying40 rfl i0
  refine bodyPost_ret (v := .agg L.toArray) ?_ rfl ⟨rfl, by first | exact belows_put HS.out.o _ 0 HS.out.n | (rw [hB]; exact belows_put HS.out.o _ 0 HS.out.n)⟩
  simp [results, Try.f32, Act.put, asAddr, hld]
set_option maxRecDepth 100000 in
set_option maxHeartbeats 2000000 in
theorem apply_force (k p q u v c i x : Int) (p' q' u' v' : Int) (F : Nat → Int) (m : Int) (h : ls k = true) (h2 : lz k p q u v p' q' u' v' = true) (h3 : nw k = true) (X : Nat → Int) (hc : ∀ w : World, Calls Try.prog 61 #[.agg (ints .u8 72 F).toArray, .int .i64 i, .int .i64 x] w fun e w' => e = .returned (.agg (ints .u8 72 X).toArray) ∧ Below w.heap.size w w') (w : World) :
    Calls Try.prog 32 #[.agg #[.int .i64 k, .int .i64 p, .int .i64 q, .int .i64 u, .int .i64 v, .int .i64 c, .int .i64 i, .int .i64 x], .int .i64 m, .agg #[.int .i64 p', .int .i64 q', .int .i64 u', .int .i64 v'], .agg (ints .u8 72 F).toArray] w fun e w' => e = .returned (.agg (ints .u8 72 X).toArray) ∧ Below w.heap.size w w' := by
  have hz := zeroR
  obtain ⟨L, hL⟩ : ∃ L, ints .u8 72 F = L := ⟨_, rfl⟩
  obtain ⟨Z, hZ⟩ : ∃ A, (ints .u8 72 fun _ => 0).toArray = A := ⟨_, rfl⟩
  have i0 : (Try.prog.info? 40).map (·.size) = some L.length := by rw [← hL, ints_len]; exact infoR
  have one0 : L.toArray.all (·.oneCell') = true := by rw [← hL]; exact ints_one .u8 72 F
  have HL : Hid (ints .u8 72 F = L) := hL
  have C0 : Hid (∀ w : World, Calls Try.prog 27 #[.agg #[.int .i64 k, .int .i64 p, .int .i64 q, .int .i64 u, .int .i64 v, .int .i64 c, .int .i64 i, .int .i64 x]] w fun e w' => e = .returned (.bool true) ∧ Below w.heap.size w w') := fun w => by rw [← h]; exact lasts_any k p q u v c i x w
  have C1 : Hid (∀ w : World, Calls Try.prog 29 #[.agg #[.int .i64 k, .int .i64 p, .int .i64 q, .int .i64 u, .int .i64 v, .int .i64 c, .int .i64 i, .int .i64 x], .agg #[.int .i64 p', .int .i64 q', .int .i64 u', .int .i64 v']] w fun e w' => e = .returned (.bool true) ∧ Below w.heap.size w w') := fun w => by rw [← h2]; exact lies_any k p q u v c i x p' q' u' v' w
  have C2 : Hid (∀ w : World, Calls Try.prog 28 #[.agg #[.int .i64 k, .int .i64 p, .int .i64 q, .int .i64 u, .int .i64 v, .int .i64 c, .int .i64 i, .int .i64 x]] w fun e w' => e = .returned (.bool true) ∧ Below w.heap.size w w') := fun w => by rw [← h3]; exact narrow_any k p q u v c i x w
  obtain ⟨L1, hL1⟩ : ∃ L1, ints .u8 72 X = L1 := ⟨_, rfl⟩
  have i1 : (Try.prog.info? 40).map (·.size) = some L1.length := by rw [← hL1, ints_len]; exact infoR
  have one1 : L1.toArray.all (·.oneCell') = true := by rw [← hL1]; exact ints_one .u8 72 X
  have HL1 : Hid (ints .u8 72 X = L1) := hL1
  rw [hL, hL1] at hc
  have C3 : Hid (∀ w : World, Calls Try.prog 61 #[.agg L.toArray, .int .i64 i, .int .i64 x] w fun e w' => e = .returned (.agg L1.toArray) ∧ Below w.heap.size w w') := hc
  clear hc hL1
  rw [hL, HL1.out]
  rw [hZ] at hz
  go_enter Try.func32, Try.ntmps32
  go_upto_region 1 with (fail)
  obtain ⟨B, hB⟩ : ∃ B, w.heap.size = B := ⟨_, rfl⟩
  obtain ⟨C, hC⟩ : ∃ C, B + 1 = C := ⟨_, rfl⟩
  obtain ⟨D, hD⟩ : ∃ D, C + 1 = D := ⟨_, rfl⟩
  obtain ⟨E, hE⟩ : ∃ E, D + 1 = E := ⟨_, rfl⟩
  obtain ⟨V, hV⟩ : ∃ V, (((w.alloc (.cells #[.int .i64 k, .int .i64 p, .int .i64 q, .int .i64 u, .int .i64 v, .int .i64 c, .int .i64 i, .int .i64 x] 38)).alloc (.cells #[.int .i64 p', .int .i64 q', .int .i64 u', .int .i64 v'] 36)).alloc (.cells L.toArray 40)).alloc (.cells Z 40) = V := ⟨_, rfl⟩
  have HS : Hid (Ap B C D E k p q u v c i x p' q' u' v' L w V) := by
    have a1 := Pl.new (w.alloc (.cells #[.int .i64 k, .int .i64 p, .int .i64 q, .int .i64 u, .int .i64 v, .int .i64 c, .int .i64 i, .int .i64 x] 38)) p' q' u' v' 36
    have a2 := Bk.new .u8 ((w.alloc (.cells #[.int .i64 k, .int .i64 p, .int .i64 q, .int .i64 u, .int .i64 v, .int .i64 c, .int .i64 i, .int .i64 x] 38)).alloc (.cells #[.int .i64 p', .int .i64 q', .int .i64 u', .int .i64 v'] 36)) 72 F 40
    have a3 := Bk.new .u8 (((w.alloc (.cells #[.int .i64 k, .int .i64 p, .int .i64 q, .int .i64 u, .int .i64 v, .int .i64 c, .int .i64 i, .int .i64 x] 38)).alloc (.cells #[.int .i64 p', .int .i64 q', .int .i64 u', .int .i64 v'] 36)).alloc (.cells L.toArray 40)) 72 (fun _ => 0) 40
    rw [hL] at a2
    rw [hZ] at a3
    simp only [World.size_alloc] at a1 a2 a3
    have r2 := (a2.alloc (.cells Z 40)).range
    rw [hL] at r2
    rw [← hV, ← hE, ← hD, ← hC, ← hB]
    exact ⟨(((Ft.new w k p q u v c i x _).alloc _).alloc _).alloc _, (a1.alloc _).alloc _, r2, by simp only [World.size_alloc]; omega, a3, ((((Below.refl _ w).alloc (Nat.le_refl _) _).alloc (by simp) _).alloc (by simp; omega) _).alloc (by simp; omega) _, by simp only [World.size_alloc]; omega, by omega⟩
  rw [hV, hB, hC, hD, hE]
  clear hV hC hD hE hz hZ hL
  have f0 := HS.out.f.c0; have f5 := HS.out.f.c5; have f6 := HS.out.f.c6; have f7 := HS.out.f.c7
  go_upto_region 4 with (first
      | refine wpList_load_mid rfl 38 _ rfl B 0 rfl [.int .i64 k, .int .i64 p, .int .i64 q, .int .i64 u, .int .i64 v, .int .i64 c, .int .i64 i, .int .i64 x] _ (by exact HS.out.f.range) Try.underlying38 rfl infoF ?_
      | refine wpList_load_g (by rfl) 38 _ rfl B 0 rfl [.int .i64 k, .int .i64 p, .int .i64 q, .int .i64 u, .int .i64 v, .int .i64 c, .int .i64 i, .int .i64 x] _ (by exact HS.out.f.range) Try.underlying38 rfl infoF ?_
      | refine wpList_load_g (by rfl) 36 _ rfl C 0 rfl [.int .i64 p', .int .i64 q', .int .i64 u', .int .i64 v'] _ (by exact HS.out.g.range) Try.underlying36 rfl infoP ?_
      | refine wpList_load_mid rfl 40 _ rfl D 0 rfl L _ (by exact HS.out.r) Try.underlying40 rfl i0 ?_
      | (go_at_call 27; refine (C0.out _).mono ?_; rintro e W1 ⟨rfl, b1⟩; replace HS : Hid (Ap B C D E k p q u v c i x p' q' u' v' L w W1) := HS.out.next b1; clear b1 f0 f5 f6 f7; have f0 := HS.out.f.c0; have f5 := HS.out.f.c5; have f6 := HS.out.f.c6; have f7 := HS.out.f.c7)
      | (go_at_call 29; refine (C1.out _).mono ?_; rintro e W2 ⟨rfl, b1⟩; replace HS : Hid (Ap B C D E k p q u v c i x p' q' u' v' L w W2) := HS.out.next b1; clear b1 f0 f5 f6 f7; have f0 := HS.out.f.c0; have f5 := HS.out.f.c5; have f6 := HS.out.f.c6; have f7 := HS.out.f.c7)
      | (go_at_call 28; refine (C2.out _).mono ?_; rintro e W3 ⟨rfl, b1⟩; replace HS : Hid (Ap B C D E k p q u v c i x p' q' u' v' L w W3) := HS.out.next b1; clear b1 f0 f5 f6 f7; have f0 := HS.out.f.c0; have f5 := HS.out.f.c5; have f6 := HS.out.f.c6; have f7 := HS.out.f.c7))
  go_wp2_with (first
      | refine wpList_load_mid rfl 38 _ rfl B 0 rfl [.int .i64 k, .int .i64 p, .int .i64 q, .int .i64 u, .int .i64 v, .int .i64 c, .int .i64 i, .int .i64 x] _ (by exact HS.out.f.range) Try.underlying38 rfl infoF ?_
      | refine wpList_load_g (by rfl) 38 _ rfl B 0 rfl [.int .i64 k, .int .i64 p, .int .i64 q, .int .i64 u, .int .i64 v, .int .i64 c, .int .i64 i, .int .i64 x] _ (by exact HS.out.f.range) Try.underlying38 rfl infoF ?_
      | refine wpList_load_g (by rfl) 36 _ rfl C 0 rfl [.int .i64 p', .int .i64 q', .int .i64 u', .int .i64 v'] _ (by exact HS.out.g.range) Try.underlying36 rfl infoP ?_
      | refine wpList_load_mid rfl 40 _ rfl D 0 rfl L _ (by exact HS.out.r) Try.underlying40 rfl i0 ?_)
  refine (C3.out _).mono ?_
  rintro e W4 ⟨rfl, b1⟩
  replace HS : Hid (Ap B C D E k p q u v c i x p' q' u' v' L w W4) := HS.out.next b1
  clear b1 f0 f5 f6 f7
  have f0 := HS.out.f.c0
  have f5 := HS.out.f.c5
  have f6 := HS.out.f.c6
  have f7 := HS.out.f.c7
  have ht : World.there W4 E 0 72 := Bk.there HS.out.e .u8 (fun _ => 0)
  have ht2 : World.there W4 E 0 L1.toArray.size := by rw [show L1.toArray.size = 72 by rw [← HL1.out]; simp [ints]]; exact ht
  have j9 : (Try.prog.info? 40).map (·.size) = some L1.toArray.size := by simpa using i1
  go_wp2_with (first | refine wpList_store_mid rfl 40 _ _ rfl E 0 L1.toArray rfl rfl ht2 j9 one1 ?_)
  have hs : (World.setCells W4 E 0 L1).rangeAt E 0 L1 := World.rangeAt_setCells_same W4 _ 0 L1 (by simpa using ht2)
  have hld := run_loadVar_mid (P := Try.prog) (World.setCells W4 E 0 L1) E 0 40 L1 _ hs Try.underlying40 rfl i1
  refine bodyPost_ret (v := .agg L1.toArray) ?_ rfl ⟨rfl, by first | exact belows_put HS.out.o _ 0 HS.out.n | (rw [hB]; exact belows_put HS.out.o _ 0 HS.out.n)⟩
  simp [results, Try.f32, Act.put, asAddr, hld]
set_option maxRecDepth 100000 in
set_option maxHeartbeats 2000000 in
theorem apply_chip (k p q u v c i x : Int) (p' q' u' v' : Int) (F : Nat → Int) (m : Int) (h : ls k = true) (h2 : lz k p q u v p' q' u' v' = true) (h3 : nw k = false) (X : Nat → Int) (hc : ∀ w : World, Calls Try.prog 62 #[.agg (ints .u8 72 F).toArray, .int .i64 m, .int .i64 c, .int .u8 (x % 256)] w fun e w' => e = .returned (.agg (ints .u8 72 X).toArray) ∧ Below w.heap.size w w') (w : World) :
    Calls Try.prog 32 #[.agg #[.int .i64 k, .int .i64 p, .int .i64 q, .int .i64 u, .int .i64 v, .int .i64 c, .int .i64 i, .int .i64 x], .int .i64 m, .agg #[.int .i64 p', .int .i64 q', .int .i64 u', .int .i64 v'], .agg (ints .u8 72 F).toArray] w fun e w' => e = .returned (.agg (ints .u8 72 X).toArray) ∧ Below w.heap.size w w' := by
  have hz := zeroR
  obtain ⟨L, hL⟩ : ∃ L, ints .u8 72 F = L := ⟨_, rfl⟩
  obtain ⟨Z, hZ⟩ : ∃ A, (ints .u8 72 fun _ => 0).toArray = A := ⟨_, rfl⟩
  have i0 : (Try.prog.info? 40).map (·.size) = some L.length := by rw [← hL, ints_len]; exact infoR
  have one0 : L.toArray.all (·.oneCell') = true := by rw [← hL]; exact ints_one .u8 72 F
  have HL : Hid (ints .u8 72 F = L) := hL
  have C0 : Hid (∀ w : World, Calls Try.prog 27 #[.agg #[.int .i64 k, .int .i64 p, .int .i64 q, .int .i64 u, .int .i64 v, .int .i64 c, .int .i64 i, .int .i64 x]] w fun e w' => e = .returned (.bool true) ∧ Below w.heap.size w w') := fun w => by rw [← h]; exact lasts_any k p q u v c i x w
  have C1 : Hid (∀ w : World, Calls Try.prog 29 #[.agg #[.int .i64 k, .int .i64 p, .int .i64 q, .int .i64 u, .int .i64 v, .int .i64 c, .int .i64 i, .int .i64 x], .agg #[.int .i64 p', .int .i64 q', .int .i64 u', .int .i64 v']] w fun e w' => e = .returned (.bool true) ∧ Below w.heap.size w w') := fun w => by rw [← h2]; exact lies_any k p q u v c i x p' q' u' v' w
  have C2 : Hid (∀ w : World, Calls Try.prog 28 #[.agg #[.int .i64 k, .int .i64 p, .int .i64 q, .int .i64 u, .int .i64 v, .int .i64 c, .int .i64 i, .int .i64 x]] w fun e w' => e = .returned (.bool false) ∧ Below w.heap.size w w') := fun w => by rw [← h3]; exact narrow_any k p q u v c i x w
  obtain ⟨L1, hL1⟩ : ∃ L1, ints .u8 72 X = L1 := ⟨_, rfl⟩
  have i1 : (Try.prog.info? 40).map (·.size) = some L1.length := by rw [← hL1, ints_len]; exact infoR
  have one1 : L1.toArray.all (·.oneCell') = true := by rw [← hL1]; exact ints_one .u8 72 X
  have HL1 : Hid (ints .u8 72 X = L1) := hL1
  rw [hL, hL1] at hc
  have C3 : Hid (∀ w : World, Calls Try.prog 62 #[.agg L.toArray, .int .i64 m, .int .i64 c, .int .u8 (x % 256)] w fun e w' => e = .returned (.agg L1.toArray) ∧ Below w.heap.size w w') := hc
  clear hc hL1
  rw [hL, HL1.out]
  rw [hZ] at hz
  go_enter Try.func32, Try.ntmps32
  go_upto_region 1 with (fail)
  obtain ⟨B, hB⟩ : ∃ B, w.heap.size = B := ⟨_, rfl⟩
  obtain ⟨C, hC⟩ : ∃ C, B + 1 = C := ⟨_, rfl⟩
  obtain ⟨D, hD⟩ : ∃ D, C + 1 = D := ⟨_, rfl⟩
  obtain ⟨E, hE⟩ : ∃ E, D + 1 = E := ⟨_, rfl⟩
  obtain ⟨V, hV⟩ : ∃ V, (((w.alloc (.cells #[.int .i64 k, .int .i64 p, .int .i64 q, .int .i64 u, .int .i64 v, .int .i64 c, .int .i64 i, .int .i64 x] 38)).alloc (.cells #[.int .i64 p', .int .i64 q', .int .i64 u', .int .i64 v'] 36)).alloc (.cells L.toArray 40)).alloc (.cells Z 40) = V := ⟨_, rfl⟩
  have HS : Hid (Ap B C D E k p q u v c i x p' q' u' v' L w V) := by
    have a1 := Pl.new (w.alloc (.cells #[.int .i64 k, .int .i64 p, .int .i64 q, .int .i64 u, .int .i64 v, .int .i64 c, .int .i64 i, .int .i64 x] 38)) p' q' u' v' 36
    have a2 := Bk.new .u8 ((w.alloc (.cells #[.int .i64 k, .int .i64 p, .int .i64 q, .int .i64 u, .int .i64 v, .int .i64 c, .int .i64 i, .int .i64 x] 38)).alloc (.cells #[.int .i64 p', .int .i64 q', .int .i64 u', .int .i64 v'] 36)) 72 F 40
    have a3 := Bk.new .u8 (((w.alloc (.cells #[.int .i64 k, .int .i64 p, .int .i64 q, .int .i64 u, .int .i64 v, .int .i64 c, .int .i64 i, .int .i64 x] 38)).alloc (.cells #[.int .i64 p', .int .i64 q', .int .i64 u', .int .i64 v'] 36)).alloc (.cells L.toArray 40)) 72 (fun _ => 0) 40
    rw [hL] at a2
    rw [hZ] at a3
    simp only [World.size_alloc] at a1 a2 a3
    have r2 := (a2.alloc (.cells Z 40)).range
    rw [hL] at r2
    rw [← hV, ← hE, ← hD, ← hC, ← hB]
    exact ⟨(((Ft.new w k p q u v c i x _).alloc _).alloc _).alloc _, (a1.alloc _).alloc _, r2, by simp only [World.size_alloc]; omega, a3, ((((Below.refl _ w).alloc (Nat.le_refl _) _).alloc (by simp) _).alloc (by simp; omega) _).alloc (by simp; omega) _, by simp only [World.size_alloc]; omega, by omega⟩
  rw [hV, hB, hC, hD, hE]
  clear hV hC hD hE hz hZ hL
  have f0 := HS.out.f.c0; have f5 := HS.out.f.c5; have f6 := HS.out.f.c6; have f7 := HS.out.f.c7
  go_upto_region 5 with (first
      | refine wpList_load_mid rfl 38 _ rfl B 0 rfl [.int .i64 k, .int .i64 p, .int .i64 q, .int .i64 u, .int .i64 v, .int .i64 c, .int .i64 i, .int .i64 x] _ (by exact HS.out.f.range) Try.underlying38 rfl infoF ?_
      | refine wpList_load_g (by rfl) 38 _ rfl B 0 rfl [.int .i64 k, .int .i64 p, .int .i64 q, .int .i64 u, .int .i64 v, .int .i64 c, .int .i64 i, .int .i64 x] _ (by exact HS.out.f.range) Try.underlying38 rfl infoF ?_
      | refine wpList_load_g (by rfl) 36 _ rfl C 0 rfl [.int .i64 p', .int .i64 q', .int .i64 u', .int .i64 v'] _ (by exact HS.out.g.range) Try.underlying36 rfl infoP ?_
      | refine wpList_load_mid rfl 40 _ rfl D 0 rfl L _ (by exact HS.out.r) Try.underlying40 rfl i0 ?_
      | (go_at_call 27; refine (C0.out _).mono ?_; rintro e W1 ⟨rfl, b1⟩; replace HS : Hid (Ap B C D E k p q u v c i x p' q' u' v' L w W1) := HS.out.next b1; clear b1 f0 f5 f6 f7; have f0 := HS.out.f.c0; have f5 := HS.out.f.c5; have f6 := HS.out.f.c6; have f7 := HS.out.f.c7)
      | (go_at_call 29; refine (C1.out _).mono ?_; rintro e W2 ⟨rfl, b1⟩; replace HS : Hid (Ap B C D E k p q u v c i x p' q' u' v' L w W2) := HS.out.next b1; clear b1 f0 f5 f6 f7; have f0 := HS.out.f.c0; have f5 := HS.out.f.c5; have f6 := HS.out.f.c6; have f7 := HS.out.f.c7)
      | (go_at_call 28; refine (C2.out _).mono ?_; rintro e W3 ⟨rfl, b1⟩; replace HS : Hid (Ap B C D E k p q u v c i x p' q' u' v' L w W3) := HS.out.next b1; clear b1 f0 f5 f6 f7; have f0 := HS.out.f.c0; have f5 := HS.out.f.c5; have f6 := HS.out.f.c6; have f7 := HS.out.f.c7))
  go_wp2_with (first
      | refine wpList_load_mid rfl 38 _ rfl B 0 rfl [.int .i64 k, .int .i64 p, .int .i64 q, .int .i64 u, .int .i64 v, .int .i64 c, .int .i64 i, .int .i64 x] _ (by exact HS.out.f.range) Try.underlying38 rfl infoF ?_
      | refine wpList_load_g (by rfl) 38 _ rfl B 0 rfl [.int .i64 k, .int .i64 p, .int .i64 q, .int .i64 u, .int .i64 v, .int .i64 c, .int .i64 i, .int .i64 x] _ (by exact HS.out.f.range) Try.underlying38 rfl infoF ?_
      | refine wpList_load_g (by rfl) 36 _ rfl C 0 rfl [.int .i64 p', .int .i64 q', .int .i64 u', .int .i64 v'] _ (by exact HS.out.g.range) Try.underlying36 rfl infoP ?_
      | refine wpList_load_mid rfl 40 _ rfl D 0 rfl L _ (by exact HS.out.r) Try.underlying40 rfl i0 ?_)
  refine (C3.out _).mono ?_
  rintro e W4 ⟨rfl, b1⟩
  replace HS : Hid (Ap B C D E k p q u v c i x p' q' u' v' L w W4) := HS.out.next b1
  clear b1 f0 f5 f6 f7
  have f0 := HS.out.f.c0
  have f5 := HS.out.f.c5
  have f6 := HS.out.f.c6
  have f7 := HS.out.f.c7
  have ht : World.there W4 E 0 72 := Bk.there HS.out.e .u8 (fun _ => 0)
  have ht2 : World.there W4 E 0 L1.toArray.size := by rw [show L1.toArray.size = 72 by rw [← HL1.out]; simp [ints]]; exact ht
  have j9 : (Try.prog.info? 40).map (·.size) = some L1.toArray.size := by simpa using i1
  go_wp2_with (first | refine wpList_store_mid rfl 40 _ _ rfl E 0 L1.toArray rfl rfl ht2 j9 one1 ?_)
  have hs : (World.setCells W4 E 0 L1).rangeAt E 0 L1 := World.rangeAt_setCells_same W4 _ 0 L1 (by simpa using ht2)
  have hld := run_loadVar_mid (P := Try.prog) (World.setCells W4 E 0 L1) E 0 40 L1 _ hs Try.underlying40 rfl i1
  refine bodyPost_ret (v := .agg L1.toArray) ?_ rfl ⟨rfl, by first | exact belows_put HS.out.o _ 0 HS.out.n | (rw [hB]; exact belows_put HS.out.o _ 0 HS.out.n)⟩
  simp [results, Try.f32, Act.put, asAddr, hld]
theorem apply_any (k p q u v c i x : Int) (p' q' u' v' : Int) (F : Nat → Int) (hF : Byts 72 F) (m n j : Int) (hm : Md m n j) (hi : i ≤ 9223372036854775807) (w : World) :
    Calls Try.prog 32 #[.agg #[.int .i64 k, .int .i64 p, .int .i64 q, .int .i64 u, .int .i64 v, .int .i64 c, .int .i64 i, .int .i64 x], .int .i64 m, .agg #[.int .i64 p', .int .i64 q', .int .i64 u', .int .i64 v'], .agg (ints .u8 72 F).toArray] w fun e w' => e = .returned (.agg (ints .u8 72 (apF n k p q u v c i x p' q' u' v' F)).toArray) ∧ Below w.heap.size w w' := by
  unfold apF
  cases h : ls k with
  | false =>
    rw [if_neg (by simp)]
    exact apply_off k p q u v c i x p' q' u' v' F m h w
  | true =>
    cases h2 : lz k p q u v p' q' u' v' with
    | false =>
      rw [if_neg (by simp)]
      exact apply_away k p q u v c i x p' q' u' v' F m h h2 w
    | true =>
      rw [if_pos ⟨rfl, rfl⟩]
      have hk := of_decide_eq_true h
      by_cases h3 : k = 2
      · rw [if_pos h3]
        exact apply_force k p q u v c i x p' q' u' v' F m h h2 (decide_eq_true (.inr h3)) _ (fun w => force_any F hF i x hi w) w
      · rw [if_neg h3]
        exact apply_chip k p q u v c i x p' q' u' v' F m h h2 (decide_eq_false (by omega)) _ (fun w => chipR_any hm F (x % 256) c w) w
theorem frc_byt (F : Nat → Int) (hF : Byts 72 F) (i x : Int) : Byts 72 (frc F i x) := fun j hj => by
  have := hF j hj
  unfold frc
  split
  · unfold frR
    split
    · have h2 := fc_lt (F j).toNat (by omega) (i.toNat % 8) (by omega) (x % 2).toNat (by omega)
      omega
    · exact this
  · exact this
theorem chp_byt (n c : Int) (F : Nat → Int) (hF : Byts 72 F) (y : Int) (hy : 0 ≤ y ∧ y < 256) : Byts 72 (Rw.chp n.toNat c F y) := fun j hj => by
  unfold Rw.chp
  split
  · exact hy
  · exact hF j hj
theorem apF_byt (n k p q u v c i x p' q' u' v' : Int) (F : Nat → Int) (hF : Byts 72 F) : Byts 72 (apF n k p q u v c i x p' q' u' v' F) := by
  unfold apF
  split
  · split
    · exact frc_byt F hF i x
    · exact chp_byt n c F hF _ (by omega)
  · exact hF
end Go.Proofs.Ytcpjmfemgdgplaa

/-
  The document's Lies.
-/
namespace Go.Proofs.Ytcpjmfemgdgplaa
open Go.RowKit Go.Shelf
attribute [local go_sem] Oper.semAt_some

theorem infoQ : (Try.prog.info? 49).map (·.size) = some 4 := by kernel_rfl
theorem infoG : (Try.prog.info? 51).map (·.size) = some 8 := by kernel_rfl
theorem lz_iff (k p q u v p' q' u' v' : Int) : lz k p q u v p' q' u' v' = true ↔ (1 ≤ k ∧ k ≤ 5 ∧ p' = p ∧ (k = 5 ∨ q' = q) ∧ (k = 4 ∨ k = 5 ∨ u' = u) ∧ (k = 3 ∨ k = 5 ∨ v' = v)) := by
  have hq : nq k q' = nq k q ↔ (k = 5 ∨ q' = q) := by unfold nq; split <;> omega
  have hu : nu k u' = nu k u ↔ (k = 4 ∨ k = 5 ∨ u' = u) := by unfold nu; split <;> omega
  have hv : nv k v' = nv k v ↔ (k = 3 ∨ k = 5 ∨ v' = v) := by unfold nv; split <;> omega
  unfold lz nw ls
  simp only [Bool.and_eq_true, Bool.or_eq_true, decide_eq_true_eq, hq, hu, hv]
  omega
theorem lz_no {k p q u v p' q' u' v' : Int} (h : ¬ (1 ≤ k ∧ k ≤ 5 ∧ p' = p ∧ (k = 5 ∨ q' = q) ∧ (k = 4 ∨ k = 5 ∨ u' = u) ∧ (k = 3 ∨ k = 5 ∨ v' = v))) : lz k p q u v p' q' u' v' = false := by
  rw [Bool.eq_false_iff, ne_eq, lz_iff]; exact h
/-- what the document's Lies works on -/
structure Lr (B C D : Nat) (k p q u v c i x : Int) (p' q' u' v' : Int) (w W : World) : Prop where
  f : Ft W B k p q u v c i x
  g : Pl W C p' q' u' v'
  h : Pl W D p q u v
  n : Below B w W
set_option maxRecDepth 100000 in
set_option maxHeartbeats 4000000 in
theorem refLies_flip (p q u v c i x : Int) (p' q' u' v' : Int) (w : World) :
    Calls Try.prog 71 #[.agg #[.int .i64 1, .int .i64 p, .int .i64 q, .int .i64 u, .int .i64 v, .int .i64 c, .int .i64 i, .int .i64 x], .agg #[.int .i64 p', .int .i64 q', .int .i64 u', .int .i64 v']] w fun e w' => e = .returned (.bool (lz 1 p q u v p' q' u' v')) ∧ Below w.heap.size w w' := by
  obtain ⟨z, Z⟩ : ∃ z, Hid (lz 1 p q u v p' q' u' v' = z) := ⟨_, rfl⟩
  rw [Z.out]
  go_enter Try.func71, Try.ntmps71
  go_upto_region 1 with (fail)
  obtain ⟨B, hB⟩ : ∃ B, w.heap.size = B := ⟨_, rfl⟩
  obtain ⟨C, hC⟩ : ∃ C, B + 1 = C := ⟨_, rfl⟩
  obtain ⟨D, hD⟩ : ∃ D, C + 1 = D := ⟨_, rfl⟩
  obtain ⟨V, hV⟩ : ∃ V, (w.alloc (.cells #[.int .i64 1, .int .i64 p, .int .i64 q, .int .i64 u, .int .i64 v, .int .i64 c, .int .i64 i, .int .i64 x] 51)).alloc (.cells #[.int .i64 p', .int .i64 q', .int .i64 u', .int .i64 v'] 49) = V := ⟨_, rfl⟩
  have HI : Ft V B 1 p q u v c i x ∧ Pl V C p' q' u' v' ∧ Below B w V ∧ V.heap.size = D := by
    rw [← hV, ← hD, ← hC, ← hB]
    have h1 := Pl.new (w.alloc (.cells #[.int .i64 1, .int .i64 p, .int .i64 q, .int .i64 u, .int .i64 v, .int .i64 c, .int .i64 i, .int .i64 x] 51)) p' q' u' v' 49
    simp only [World.size_alloc] at h1
    exact ⟨(Ft.new w 1 p q u v c i x _).alloc _, h1, ((Below.refl _ w).alloc (Nat.le_refl _) _).alloc (by simp) _, by simp only [World.size_alloc]⟩
  obtain ⟨i1, i2, i3, i4⟩ := HI
  have hr := i1.place
  have HS : Hid (Lr B C D 1 p q u v c i x p' q' u' v' w (V.alloc (.cells #[.int .i64 p, .int .i64 q, .int .i64 u, .int .i64 v] 49))) := by
    have h1 := Pl.new V p q u v 49
    rw [i4] at h1
    exact ⟨i1.alloc _, i2.alloc _, h1, i3.alloc (by omega) _⟩
  rw [hV, hB, hC]
  clear hV i1 i2 i3
  go_upto_region 2 with (first | refine wpList_load_mid rfl 49 _ rfl B 1 rfl [.int .i64 p, .int .i64 q, .int .i64 u, .int .i64 v] _ hr Try.underlying49 rfl infoQ ?_)
  obtain ⟨W, hW⟩ : ∃ W, V.alloc (.cells #[.int .i64 p, .int .i64 q, .int .i64 u, .int .i64 v] 49) = W := ⟨_, rfl⟩
  rw [hW] at HS ⊢
  try rw [i4]
  clear hW hr i4 hC hD
  have f0 := HS.out.f.c0
  have g0 := HS.out.g.c0; have g1 := HS.out.g.c1; have g2 := HS.out.g.c2; have g3 := HS.out.g.c3
  have h0 := HS.out.h.c0; have h1 := HS.out.h.c1; have h2 := HS.out.h.c2; have h3 := HS.out.h.c3
  have hgp := HS.out.g.range
  have hhp := HS.out.h.range
  have hE : ∀ w, (binOp .eql 49 (.agg #[.int .i64 p', .int .i64 q', .int .i64 u', .int .i64 v']) (.agg #[.int .i64 p, .int .i64 q, .int .i64 u, .int .i64 v])).run Try.prog w = .ok (.bool z) w := fun w => by
    have e1 : z = decide (p' = p ∧ q' = q ∧ u' = u ∧ v' = v) := by rw [← Z.out, Bool.eq_iff_iff, lz_iff, decide_eq_true_eq]; omega
    rw [e1]; exact eqQ_eql p' q' u' v' p q u v w
  have gd := eqQ_gd
  clear g0 g1 g2 g3 h0 h1 h2 h3
  go_upto_region 3 with (fail)
  go_step
  refine wpList_load_mid rfl 49 _ rfl C 0 rfl [.int .i64 p', .int .i64 q', .int .i64 u', .int .i64 v'] _ hgp Try.underlying49 rfl infoQ ?_
  refine wpList_load_mid rfl 49 _ rfl D 0 rfl [.int .i64 p, .int .i64 q, .int .i64 u, .int .i64 v] _ hhp Try.underlying49 rfl infoQ ?_
  refine wpList_known rfl (.bool z) (exec_eqlA 49 _ _ _ rfl _ _ _ rfl rfl gd hE _) ?_
  simp only [Act.put, List.setIfInBounds_toArray, List.set_cons_zero, List.set_cons_succ]
  go_wp2
  go_ret
  exact ⟨rfl, by first | exact HS.out.n | (rw [hB]; exact HS.out.n)⟩
set_option maxRecDepth 100000 in
set_option maxHeartbeats 4000000 in
theorem refLies_stuck (p q u v c i x : Int) (p' q' u' v' : Int) (w : World) :
    Calls Try.prog 71 #[.agg #[.int .i64 2, .int .i64 p, .int .i64 q, .int .i64 u, .int .i64 v, .int .i64 c, .int .i64 i, .int .i64 x], .agg #[.int .i64 p', .int .i64 q', .int .i64 u', .int .i64 v']] w fun e w' => e = .returned (.bool (lz 2 p q u v p' q' u' v')) ∧ Below w.heap.size w w' := by
  obtain ⟨z, Z⟩ : ∃ z, Hid (lz 2 p q u v p' q' u' v' = z) := ⟨_, rfl⟩
  rw [Z.out]
  go_enter Try.func71, Try.ntmps71
  go_upto_region 1 with (fail)
  obtain ⟨B, hB⟩ : ∃ B, w.heap.size = B := ⟨_, rfl⟩
  obtain ⟨C, hC⟩ : ∃ C, B + 1 = C := ⟨_, rfl⟩
  obtain ⟨D, hD⟩ : ∃ D, C + 1 = D := ⟨_, rfl⟩
  obtain ⟨V, hV⟩ : ∃ V, (w.alloc (.cells #[.int .i64 2, .int .i64 p, .int .i64 q, .int .i64 u, .int .i64 v, .int .i64 c, .int .i64 i, .int .i64 x] 51)).alloc (.cells #[.int .i64 p', .int .i64 q', .int .i64 u', .int .i64 v'] 49) = V := ⟨_, rfl⟩
  have HI : Ft V B 2 p q u v c i x ∧ Pl V C p' q' u' v' ∧ Below B w V ∧ V.heap.size = D := by
    rw [← hV, ← hD, ← hC, ← hB]
    have h1 := Pl.new (w.alloc (.cells #[.int .i64 2, .int .i64 p, .int .i64 q, .int .i64 u, .int .i64 v, .int .i64 c, .int .i64 i, .int .i64 x] 51)) p' q' u' v' 49
    simp only [World.size_alloc] at h1
    exact ⟨(Ft.new w 2 p q u v c i x _).alloc _, h1, ((Below.refl _ w).alloc (Nat.le_refl _) _).alloc (by simp) _, by simp only [World.size_alloc]⟩
  obtain ⟨i1, i2, i3, i4⟩ := HI
  have hr := i1.place
  have HS : Hid (Lr B C D 2 p q u v c i x p' q' u' v' w (V.alloc (.cells #[.int .i64 p, .int .i64 q, .int .i64 u, .int .i64 v] 49))) := by
    have h1 := Pl.new V p q u v 49
    rw [i4] at h1
    exact ⟨i1.alloc _, i2.alloc _, h1, i3.alloc (by omega) _⟩
  rw [hV, hB, hC]
  clear hV i1 i2 i3
  go_upto_region 2 with (first | refine wpList_load_mid rfl 49 _ rfl B 1 rfl [.int .i64 p, .int .i64 q, .int .i64 u, .int .i64 v] _ hr Try.underlying49 rfl infoQ ?_)
  obtain ⟨W, hW⟩ : ∃ W, V.alloc (.cells #[.int .i64 p, .int .i64 q, .int .i64 u, .int .i64 v] 49) = W := ⟨_, rfl⟩
  rw [hW] at HS ⊢
  try rw [i4]
  clear hW hr i4 hC hD
  have f0 := HS.out.f.c0
  have g0 := HS.out.g.c0; have g1 := HS.out.g.c1; have g2 := HS.out.g.c2; have g3 := HS.out.g.c3
  have h0 := HS.out.h.c0; have h1 := HS.out.h.c1; have h2 := HS.out.h.c2; have h3 := HS.out.h.c3
  have hgp := HS.out.g.range
  have hhp := HS.out.h.range
  have hE : ∀ w, (binOp .eql 49 (.agg #[.int .i64 p', .int .i64 q', .int .i64 u', .int .i64 v']) (.agg #[.int .i64 p, .int .i64 q, .int .i64 u, .int .i64 v])).run Try.prog w = .ok (.bool z) w := fun w => by
    have e1 : z = decide (p' = p ∧ q' = q ∧ u' = u ∧ v' = v) := by rw [← Z.out, Bool.eq_iff_iff, lz_iff, decide_eq_true_eq]; omega
    rw [e1]; exact eqQ_eql p' q' u' v' p q u v w
  have gd := eqQ_gd
  clear g0 g1 g2 g3 h0 h1 h2 h3
  go_upto_region 3 with (fail)
  go_step
  refine wpList_load_mid rfl 49 _ rfl C 0 rfl [.int .i64 p', .int .i64 q', .int .i64 u', .int .i64 v'] _ hgp Try.underlying49 rfl infoQ ?_
  refine wpList_load_mid rfl 49 _ rfl D 0 rfl [.int .i64 p, .int .i64 q, .int .i64 u, .int .i64 v] _ hhp Try.underlying49 rfl infoQ ?_
  refine wpList_known rfl (.bool z) (exec_eqlA 49 _ _ _ rfl _ _ _ rfl rfl gd hE _) ?_
  simp only [Act.put, List.setIfInBounds_toArray, List.set_cons_zero, List.set_cons_succ]
  go_wp2
  go_ret
  exact ⟨rfl, by first | exact HS.out.n | (rw [hB]; exact HS.out.n)⟩
set_option maxRecDepth 100000 in
set_option maxHeartbeats 4000000 in
theorem refLies_row (p q u v c i x : Int) (p' q' u' v' : Int) (w : World) :
    Calls Try.prog 71 #[.agg #[.int .i64 3, .int .i64 p, .int .i64 q, .int .i64 u, .int .i64 v, .int .i64 c, .int .i64 i, .int .i64 x], .agg #[.int .i64 p', .int .i64 q', .int .i64 u', .int .i64 v']] w fun e w' => e = .returned (.bool (lz 3 p q u v p' q' u' v')) ∧ Below w.heap.size w w' := by
  obtain ⟨z, Z⟩ : ∃ z, Hid (lz 3 p q u v p' q' u' v' = z) := ⟨_, rfl⟩
  rw [Z.out]
  go_enter Try.func71, Try.ntmps71
  go_upto_region 1 with (fail)
  obtain ⟨B, hB⟩ : ∃ B, w.heap.size = B := ⟨_, rfl⟩
  obtain ⟨C, hC⟩ : ∃ C, B + 1 = C := ⟨_, rfl⟩
  obtain ⟨D, hD⟩ : ∃ D, C + 1 = D := ⟨_, rfl⟩
  obtain ⟨V, hV⟩ : ∃ V, (w.alloc (.cells #[.int .i64 3, .int .i64 p, .int .i64 q, .int .i64 u, .int .i64 v, .int .i64 c, .int .i64 i, .int .i64 x] 51)).alloc (.cells #[.int .i64 p', .int .i64 q', .int .i64 u', .int .i64 v'] 49) = V := ⟨_, rfl⟩
  have HI : Ft V B 3 p q u v c i x ∧ Pl V C p' q' u' v' ∧ Below B w V ∧ V.heap.size = D := by
    rw [← hV, ← hD, ← hC, ← hB]
    have h1 := Pl.new (w.alloc (.cells #[.int .i64 3, .int .i64 p, .int .i64 q, .int .i64 u, .int .i64 v, .int .i64 c, .int .i64 i, .int .i64 x] 51)) p' q' u' v' 49
    simp only [World.size_alloc] at h1
    exact ⟨(Ft.new w 3 p q u v c i x _).alloc _, h1, ((Below.refl _ w).alloc (Nat.le_refl _) _).alloc (by simp) _, by simp only [World.size_alloc]⟩
  obtain ⟨i1, i2, i3, i4⟩ := HI
  have hr := i1.place
  have HS : Hid (Lr B C D 3 p q u v c i x p' q' u' v' w (V.alloc (.cells #[.int .i64 p, .int .i64 q, .int .i64 u, .int .i64 v] 49))) := by
    have h1 := Pl.new V p q u v 49
    rw [i4] at h1
    exact ⟨i1.alloc _, i2.alloc _, h1, i3.alloc (by omega) _⟩
  rw [hV, hB, hC]
  clear hV i1 i2 i3
  go_upto_region 2 with (first | refine wpList_load_mid rfl 49 _ rfl B 1 rfl [.int .i64 p, .int .i64 q, .int .i64 u, .int .i64 v] _ hr Try.underlying49 rfl infoQ ?_)
  obtain ⟨W, hW⟩ : ∃ W, V.alloc (.cells #[.int .i64 p, .int .i64 q, .int .i64 u, .int .i64 v] 49) = W := ⟨_, rfl⟩
  rw [hW] at HS ⊢
  try rw [i4]
  clear hW hr i4 hC hD
  have f0 := HS.out.f.c0
  have g0 := HS.out.g.c0; have g1 := HS.out.g.c1; have g2 := HS.out.g.c2; have g3 := HS.out.g.c3
  have h0 := HS.out.h.c0; have h1 := HS.out.h.c1; have h2 := HS.out.h.c2; have h3 := HS.out.h.c3
  by_cases ep : p' = p
  · have dp : (p' == p) = true := by simpa using ep
    by_cases eq : q' = q
    · have dq : (q' == q) = true := by simpa using eq
      by_cases eu : u' = u
      · have du : (u' == u) = true := by simpa using eu
        obtain rfl : z = true := by rw [← Z.out]; exact (lz_iff _ _ _ _ _ _ _ _ _).2 (by omega)
        go_wp2
        go_ret
        exact ⟨rfl, by first | exact HS.out.n | (rw [hB]; exact HS.out.n)⟩
      · have du : (u' == u) = false := by simpa using eu
        obtain rfl : z = false := by rw [← Z.out]; exact lz_no (by omega)
        go_wp2
        go_ret
        exact ⟨rfl, by first | exact HS.out.n | (rw [hB]; exact HS.out.n)⟩
    · have dq : (q' == q) = false := by simpa using eq
      obtain rfl : z = false := by rw [← Z.out]; exact lz_no (by omega)
      go_wp2
      go_ret
      exact ⟨rfl, by first | exact HS.out.n | (rw [hB]; exact HS.out.n)⟩
  · have dp : (p' == p) = false := by simpa using ep
    obtain rfl : z = false := by rw [← Z.out]; exact lz_no (by omega)
    go_wp2
    go_ret
    exact ⟨rfl, by first | exact HS.out.n | (rw [hB]; exact HS.out.n)⟩
set_option maxRecDepth 100000 in
set_option maxHeartbeats 4000000 in
theorem refLies_col (p q u v c i x : Int) (p' q' u' v' : Int) (w : World) :
    Calls Try.prog 71 #[.agg #[.int .i64 4, .int .i64 p, .int .i64 q, .int .i64 u, .int .i64 v, .int .i64 c, .int .i64 i, .int .i64 x], .agg #[.int .i64 p', .int .i64 q', .int .i64 u', .int .i64 v']] w fun e w' => e = .returned (.bool (lz 4 p q u v p' q' u' v')) ∧ Below w.heap.size w w' := by
  obtain ⟨z, Z⟩ : ∃ z, Hid (lz 4 p q u v p' q' u' v' = z) := ⟨_, rfl⟩
  rw [Z.out]
  go_enter Try.func71, Try.ntmps71
  go_upto_region 1 with (fail)
  obtain ⟨B, hB⟩ : ∃ B, w.heap.size = B := ⟨_, rfl⟩
  obtain ⟨C, hC⟩ : ∃ C, B + 1 = C := ⟨_, rfl⟩
  obtain ⟨D, hD⟩ : ∃ D, C + 1 = D := ⟨_, rfl⟩
  obtain ⟨V, hV⟩ : ∃ V, (w.alloc (.cells #[.int .i64 4, .int .i64 p, .int .i64 q, .int .i64 u, .int .i64 v, .int .i64 c, .int .i64 i, .int .i64 x] 51)).alloc (.cells #[.int .i64 p', .int .i64 q', .int .i64 u', .int .i64 v'] 49) = V := ⟨_, rfl⟩
  have HI : Ft V B 4 p q u v c i x ∧ Pl V C p' q' u' v' ∧ Below B w V ∧ V.heap.size = D := by
    rw [← hV, ← hD, ← hC, ← hB]
    have h1 := Pl.new (w.alloc (.cells #[.int .i64 4, .int .i64 p, .int .i64 q, .int .i64 u, .int .i64 v, .int .i64 c, .int .i64 i, .int .i64 x] 51)) p' q' u' v' 49
    simp only [World.size_alloc] at h1
    exact ⟨(Ft.new w 4 p q u v c i x _).alloc _, h1, ((Below.refl _ w).alloc (Nat.le_refl _) _).alloc (by simp) _, by simp only [World.size_alloc]⟩
  obtain ⟨i1, i2, i3, i4⟩ := HI
  have hr := i1.place
  have HS : Hid (Lr B C D 4 p q u v c i x p' q' u' v' w (V.alloc (.cells #[.int .i64 p, .int .i64 q, .int .i64 u, .int .i64 v] 49))) := by
    have h1 := Pl.new V p q u v 49
    rw [i4] at h1
    exact ⟨i1.alloc _, i2.alloc _, h1, i3.alloc (by omega) _⟩
  rw [hV, hB, hC]
  clear hV i1 i2 i3
  go_upto_region 2 with (first | refine wpList_load_mid rfl 49 _ rfl B 1 rfl [.int .i64 p, .int .i64 q, .int .i64 u, .int .i64 v] _ hr Try.underlying49 rfl infoQ ?_)
  obtain ⟨W, hW⟩ : ∃ W, V.alloc (.cells #[.int .i64 p, .int .i64 q, .int .i64 u, .int .i64 v] 49) = W := ⟨_, rfl⟩
  rw [hW] at HS ⊢
  try rw [i4]
  clear hW hr i4 hC hD
  have f0 := HS.out.f.c0
  have g0 := HS.out.g.c0; have g1 := HS.out.g.c1; have g2 := HS.out.g.c2; have g3 := HS.out.g.c3
  have h0 := HS.out.h.c0; have h1 := HS.out.h.c1; have h2 := HS.out.h.c2; have h3 := HS.out.h.c3
  by_cases ep : p' = p
  · have dp : (p' == p) = true := by simpa using ep
    by_cases eq : q' = q
    · have dq : (q' == q) = true := by simpa using eq
      by_cases ev : v' = v
      · have dv : (v' == v) = true := by simpa using ev
        obtain rfl : z = true := by rw [← Z.out]; exact (lz_iff _ _ _ _ _ _ _ _ _).2 (by omega)
        go_wp2
        go_ret
        exact ⟨rfl, by first | exact HS.out.n | (rw [hB]; exact HS.out.n)⟩
      · have dv : (v' == v) = false := by simpa using ev
        obtain rfl : z = false := by rw [← Z.out]; exact lz_no (by omega)
        go_wp2
        go_ret
        exact ⟨rfl, by first | exact HS.out.n | (rw [hB]; exact HS.out.n)⟩
    · have dq : (q' == q) = false := by simpa using eq
      obtain rfl : z = false := by rw [← Z.out]; exact lz_no (by omega)
      go_wp2
      go_ret
      exact ⟨rfl, by first | exact HS.out.n | (rw [hB]; exact HS.out.n)⟩
  · have dp : (p' == p) = false := by simpa using ep
    obtain rfl : z = false := by rw [← Z.out]; exact lz_no (by omega)
    go_wp2
    go_ret
    exact ⟨rfl, by first | exact HS.out.n | (rw [hB]; exact HS.out.n)⟩
set_option maxRecDepth 100000 in
set_option maxHeartbeats 4000000 in
theorem refLies_chip (p q u v c i x : Int) (p' q' u' v' : Int) (w : World) :
    Calls Try.prog 71 #[.agg #[.int .i64 5, .int .i64 p, .int .i64 q, .int .i64 u, .int .i64 v, .int .i64 c, .int .i64 i, .int .i64 x], .agg #[.int .i64 p', .int .i64 q', .int .i64 u', .int .i64 v']] w fun e w' => e = .returned (.bool (lz 5 p q u v p' q' u' v')) ∧ Below w.heap.size w w' := by
  obtain ⟨z, Z⟩ : ∃ z, Hid (lz 5 p q u v p' q' u' v' = z) := ⟨_, rfl⟩
  rw [Z.out]
  go_enter Try.func71, Try.ntmps71
  go_upto_region 1 with (fail)
  obtain ⟨B, hB⟩ : ∃ B, w.heap.size = B := ⟨_, rfl⟩
  obtain ⟨C, hC⟩ : ∃ C, B + 1 = C := ⟨_, rfl⟩
  obtain ⟨D, hD⟩ : ∃ D, C + 1 = D := ⟨_, rfl⟩
  obtain ⟨V, hV⟩ : ∃ V, (w.alloc (.cells #[.int .i64 5, .int .i64 p, .int .i64 q, .int .i64 u, .int .i64 v, .int .i64 c, .int .i64 i, .int .i64 x] 51)).alloc (.cells #[.int .i64 p', .int .i64 q', .int .i64 u', .int .i64 v'] 49) = V := ⟨_, rfl⟩
  have HI : Ft V B 5 p q u v c i x ∧ Pl V C p' q' u' v' ∧ Below B w V ∧ V.heap.size = D := by
    rw [← hV, ← hD, ← hC, ← hB]
    have h1 := Pl.new (w.alloc (.cells #[.int .i64 5, .int .i64 p, .int .i64 q, .int .i64 u, .int .i64 v, .int .i64 c, .int .i64 i, .int .i64 x] 51)) p' q' u' v' 49
    simp only [World.size_alloc] at h1
    exact ⟨(Ft.new w 5 p q u v c i x _).alloc _, h1, ((Below.refl _ w).alloc (Nat.le_refl _) _).alloc (by simp) _, by simp only [World.size_alloc]⟩
  obtain ⟨i1, i2, i3, i4⟩ := HI
  have hr := i1.place
  have HS : Hid (Lr B C D 5 p q u v c i x p' q' u' v' w (V.alloc (.cells #[.int .i64 p, .int .i64 q, .int .i64 u, .int .i64 v] 49))) := by
    have h1 := Pl.new V p q u v 49
    rw [i4] at h1
    exact ⟨i1.alloc _, i2.alloc _, h1, i3.alloc (by omega) _⟩
  rw [hV, hB, hC]
  clear hV i1 i2 i3
  go_upto_region 2 with (first | refine wpList_load_mid rfl 49 _ rfl B 1 rfl [.int .i64 p, .int .i64 q, .int .i64 u, .int .i64 v] _ hr Try.underlying49 rfl infoQ ?_)
  obtain ⟨W, hW⟩ : ∃ W, V.alloc (.cells #[.int .i64 p, .int .i64 q, .int .i64 u, .int .i64 v] 49) = W := ⟨_, rfl⟩
  rw [hW] at HS ⊢
  try rw [i4]
  clear hW hr i4 hC hD
  have f0 := HS.out.f.c0
  have g0 := HS.out.g.c0; have g1 := HS.out.g.c1; have g2 := HS.out.g.c2; have g3 := HS.out.g.c3
  have h0 := HS.out.h.c0; have h1 := HS.out.h.c1; have h2 := HS.out.h.c2; have h3 := HS.out.h.c3
  by_cases ep : p' = p
  · have dp : (p' == p) = true := by simpa using ep
    obtain rfl : z = true := by rw [← Z.out]; exact (lz_iff _ _ _ _ _ _ _ _ _).2 (by omega)
    go_wp2
    go_ret
    exact ⟨rfl, by first | exact HS.out.n | (rw [hB]; exact HS.out.n)⟩
  · have dp : (p' == p) = false := by simpa using ep
    obtain rfl : z = false := by rw [← Z.out]; exact lz_no (by omega)
    go_wp2
    go_ret
    exact ⟨rfl, by first | exact HS.out.n | (rw [hB]; exact HS.out.n)⟩
set_option maxRecDepth 100000 in
set_option maxHeartbeats 4000000 in
theorem refLies_rest (k p q u v c i x : Int) (b1 : (k == 1) = false) (b2 : (k == 2) = false) (b3 : (k == 3) = false) (b4 : (k == 4) = false) (b5 : (k == 5) = false) (p' q' u' v' : Int) (w : World) :
    Calls Try.prog 71 #[.agg #[.int .i64 k, .int .i64 p, .int .i64 q, .int .i64 u, .int .i64 v, .int .i64 c, .int .i64 i, .int .i64 x], .agg #[.int .i64 p', .int .i64 q', .int .i64 u', .int .i64 v']] w fun e w' => e = .returned (.bool (lz k p q u v p' q' u' v')) ∧ Below w.heap.size w w' := by
  obtain ⟨z, Z⟩ : ∃ z, Hid (lz k p q u v p' q' u' v' = z) := ⟨_, rfl⟩
  rw [Z.out]
  go_enter Try.func71, Try.ntmps71
  go_upto_region 1 with (fail)
  obtain ⟨B, hB⟩ : ∃ B, w.heap.size = B := ⟨_, rfl⟩
  obtain ⟨C, hC⟩ : ∃ C, B + 1 = C := ⟨_, rfl⟩
  obtain ⟨D, hD⟩ : ∃ D, C + 1 = D := ⟨_, rfl⟩
  obtain ⟨V, hV⟩ : ∃ V, (w.alloc (.cells #[.int .i64 k, .int .i64 p, .int .i64 q, .int .i64 u, .int .i64 v, .int .i64 c, .int .i64 i, .int .i64 x] 51)).alloc (.cells #[.int .i64 p', .int .i64 q', .int .i64 u', .int .i64 v'] 49) = V := ⟨_, rfl⟩
  have HI : Ft V B k p q u v c i x ∧ Pl V C p' q' u' v' ∧ Below B w V ∧ V.heap.size = D := by
    rw [← hV, ← hD, ← hC, ← hB]
    have h1 := Pl.new (w.alloc (.cells #[.int .i64 k, .int .i64 p, .int .i64 q, .int .i64 u, .int .i64 v, .int .i64 c, .int .i64 i, .int .i64 x] 51)) p' q' u' v' 49
    simp only [World.size_alloc] at h1
    exact ⟨(Ft.new w k p q u v c i x _).alloc _, h1, ((Below.refl _ w).alloc (Nat.le_refl _) _).alloc (by simp) _, by simp only [World.size_alloc]⟩
  obtain ⟨i1, i2, i3, i4⟩ := HI
  have hr := i1.place
  have HS : Hid (Lr B C D k p q u v c i x p' q' u' v' w (V.alloc (.cells #[.int .i64 p, .int .i64 q, .int .i64 u, .int .i64 v] 49))) := by
    have h1 := Pl.new V p q u v 49
    rw [i4] at h1
    exact ⟨i1.alloc _, i2.alloc _, h1, i3.alloc (by omega) _⟩
  rw [hV, hB, hC]
  clear hV i1 i2 i3
  go_upto_region 2 with (first | refine wpList_load_mid rfl 49 _ rfl B 1 rfl [.int .i64 p, .int .i64 q, .int .i64 u, .int .i64 v] _ hr Try.underlying49 rfl infoQ ?_)
  obtain ⟨W, hW⟩ : ∃ W, V.alloc (.cells #[.int .i64 p, .int .i64 q, .int .i64 u, .int .i64 v] 49) = W := ⟨_, rfl⟩
  rw [hW] at HS ⊢
  try rw [i4]
  clear hW hr i4 hC hD
  have f0 := HS.out.f.c0
  have g0 := HS.out.g.c0; have g1 := HS.out.g.c1; have g2 := HS.out.g.c2; have g3 := HS.out.g.c3
  have h0 := HS.out.h.c0; have h1 := HS.out.h.c1; have h2 := HS.out.h.c2; have h3 := HS.out.h.c3
  obtain rfl : z = false := by
    rw [← Z.out]
    have c1 : k ≠ 1 := by simpa using b1
    have c2 : k ≠ 2 := by simpa using b2
    have c3 : k ≠ 3 := by simpa using b3
    have c4 : k ≠ 4 := by simpa using b4
    have c5 : k ≠ 5 := by simpa using b5
    exact lz_no (by omega)
  go_wp2
  go_ret
  exact ⟨rfl, by first | exact HS.out.n | (rw [hB]; exact HS.out.n)⟩
theorem refLies_any (k p q u v c i x : Int) (p' q' u' v' : Int) (w : World) :
    Calls Try.prog 71 #[.agg #[.int .i64 k, .int .i64 p, .int .i64 q, .int .i64 u, .int .i64 v, .int .i64 c, .int .i64 i, .int .i64 x], .agg #[.int .i64 p', .int .i64 q', .int .i64 u', .int .i64 v']] w fun e w' => e = .returned (.bool (lz k p q u v p' q' u' v')) ∧ Below w.heap.size w w' := by
  by_cases h1 : k = 1
  · subst h1; exact refLies_flip p q u v c i x p' q' u' v' w
  by_cases h2 : k = 2
  · subst h2; exact refLies_stuck p q u v c i x p' q' u' v' w
  by_cases h3 : k = 3
  · subst h3; exact refLies_row p q u v c i x p' q' u' v' w
  by_cases h4 : k = 4
  · subst h4; exact refLies_col p q u v c i x p' q' u' v' w
  by_cases h5 : k = 5
  · subst h5; exact refLies_chip p q u v c i x p' q' u' v' w
  exact refLies_rest k p q u v c i x (by simpa using h1) (by simpa using h2) (by simpa using h3) (by simpa using h4) (by simpa using h5) p' q' u' v' w
end Go.Proofs.Ytcpjmfemgdgplaa
