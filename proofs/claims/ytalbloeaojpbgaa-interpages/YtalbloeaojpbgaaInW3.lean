/-
  The walks of package inter: the place of a page.
-/
import Derived.Test.YtalbloeaojpbgaaInW2
import Derived.BigRegion
namespace Go.Proofs.Ytalbloeaojpbgaa
open Go.RowKit
open Ge (pw rt hd ix)
open In (mx)
attribute [local go_sem] Oper.semAt_some

/-- what takeApart tells of a page -/
def Apart (p x0 x1 x2 d0 d1 d2 : Int) : Prop := ∀ (w : World) (t : TypeId), Calls Try.prog 28 #[.int .i64 p, .slice (some ⟨w.heap.size, 0, none⟩) 3 3] (w.alloc (.cells #[.int .i64 x0, .int .i64 x1, .int .i64 x2] t)) fun e w' => e = .returned (.slice (some ⟨w.heap.size + 1, 0, none⟩) 3 3) ∧ Bk .i64 w' (w.heap.size + 1) 3 (gf3 d0 d1 d2) ∧ Below w.heap.size w w'
theorem place_told {f : Func} {z : Nat} {tmps : Array Value} {W : World} {b : Nat} {p q u v : Int} (hf : f.results = #[.cell z 35]) (h : Pl W b p q u v) (hz : tmps.getD z undef = .pointer (some ⟨b, 0, none⟩)) :
    (results f tmps).run Try.prog W = .ok (.agg #[.int .i64 p, .int .i64 q, .int .i64 u, .int .i64 v]) W := by
  obtain ⟨t, ht⟩ := h
  exact results_cell_row hf _ _ b _ _ (0, 0) _ hz ht Try.underlying35 rfl (by kernel_rfl)

/-- the geometry, and the cells for what is told -/
structure PlS (w : World) (B : Nat) (r s b o c : Int) (W : World) : Prop where
  one : Gm W B r s b o c
  two : Pl W (B + 1) 0 0 0 0
  below : Below B w W
theorem PlS.start (w : World) (r s b o c : Int) (t t' : TypeId) : PlS w w.heap.size r s b o c ((w.alloc (.cells #[.int .i64 r, .int .i64 s, .int .i64 b, .int .i64 o, .int .i64 c] t)).alloc (.cells #[.int .i64 0, .int .i64 0, .int .i64 0, .int .i64 0] t')) := by
  have h1 := Pl.new (w.alloc (.cells #[.int .i64 r, .int .i64 s, .int .i64 b, .int .i64 o, .int .i64 c] t)) 0 0 0 0 t'
  rw [World.size_alloc] at h1
  exact ⟨(Gm.new w r s b o c t).alloc _, h1, ((Below.refl _ w).alloc (Nat.le_refl _) _).alloc (by simp) _⟩
theorem PlS.next {w : World} {B : Nat} {r s b o c : Int} {W W' : World} (h : PlS w B r s b o c W) (k : Below W.heap.size W W') : PlS w B r s b o c W' := ⟨h.one.next k, h.two.next k, h.below.trans (k.mono (Nat.le_of_lt h.one.lt))⟩

theorem Pl.sets {W : World} {b : Nat} {p q u v : Int} (h : Pl W b p q u v) (p' q' u' v' : Int) : Pl ((((W.setCell ⟨b, 0, none⟩ (.int .i64 p')).setCell ⟨b, 1, none⟩ (.int .i64 q')).setCell ⟨b, 2, none⟩ (.int .i64 u')).setCell ⟨b, 3, none⟩ (.int .i64 v')).drew b p' q' u' v' := by
  refine Bk.drew (Bk.congr ((((Bk.set h 0 p').set 1 q').set 2 u').set 3 v') fun i hi => ?_)
  match i, hi with
  | 0, _ => rfl
  | 1, _ => rfl
  | 2, _ => rfl
  | 3, _ => rfl
theorem below_drew8 {B : Nat} {w W : World} (h : Below B w W) : Below B w W.drew := below_stay h (Stay.drewN B W 1) (Nat.le_refl _)
theorem below_sets {B b : Nat} {w W : World} (hb : B ≤ b) (h : Below B w W) {x0 x1 x2 x3 : Value} : Below B w ((((W.setCell ⟨b, 0, none⟩ x0).setCell ⟨b, 1, none⟩ x1).setCell ⟨b, 2, none⟩ x2).setCell ⟨b, 3, none⟩ x3).drew :=
  below_drew8 ((((h.setCell (p := ⟨b, 0, none⟩) hb _).setCell (p := ⟨b, 1, none⟩) hb _).setCell (p := ⟨b, 2, none⟩) hb _).setCell (p := ⟨b, 3, none⟩) hb _)
theorem Pl.sets' {W : World} {b : Nat} {p q u v : Int} (h : Pl W b p q u v) (p' q' u' v' : Int) : Pl ((((W.setCell ⟨b, 0, none⟩ (.int .i64 p')).setCell ⟨b, 1, none⟩ (.int .i64 q')).setCell ⟨b, 2, none⟩ (.int .i64 u')).setCell ⟨b, 3, none⟩ (.int .i64 v')) b p' q' u' v' := h.sets p' q' u' v'
theorem below_sets' {B b : Nat} {w W : World} (hb : B ≤ b) (h : Below B w W) {x0 x1 x2 x3 : Value} : Below B w ((((W.setCell ⟨b, 0, none⟩ x0).setCell ⟨b, 1, none⟩ x1).setCell ⟨b, 2, none⟩ x2).setCell ⟨b, 3, none⟩ x3) :=
  ((((h.setCell (p := ⟨b, 0, none⟩) hb _).setCell (p := ⟨b, 1, none⟩) hb _).setCell (p := ⟨b, 2, none⟩) hb _).setCell (p := ⟨b, 3, none⟩) hb _)

set_option maxRecDepth 100000 in
set_option maxHeartbeats 4000000 in
theorem placeOf_0 (r s b o c p d0 d1 d2 : Int)  (HA : Hid (Apart p o b r d0 d1 d2)) (w : World) :
    Calls Try.prog 19 #[.agg #[.int .i64 r, .int .i64 s, .int .i64 b, .int .i64 o, .int .i64 c], .int .i64 0, .int .i64 p] w fun e w' => e = .returned (.agg #[.int .i64 d2, .int .i64 d1, .int .i64 d0, .int .i64 0]) ∧ Below w.heap.size w w' := by
  go_enter Try.func19, Try.ntmps19
  go_wp2_with fail
  obtain ⟨B, hB⟩ : ∃ B, w.heap.size = B := ⟨_, rfl⟩
  obtain ⟨V, hV⟩ : ∃ V, (w.alloc (.cells #[.int .i64 r, .int .i64 s, .int .i64 b, .int .i64 o, .int .i64 c] 23)).alloc (.cells #[.int .i64 0, .int .i64 0, .int .i64 0, .int .i64 0] 35) = V := ⟨_, rfl⟩
  have HP : Hid (PlS w B r s b o c V) := by rw [← hV, ← hB]; exact PlS.start w r s b o c _ _
  have hs : V.heap.size = w.heap.size + 1 + 1 := by rw [← hV]; simp
  rw [hV, ← hs, hB]
  clear hV hs
  refine (HA.out V _).mono ?_
  rintro e W ⟨rfl, hX, bW⟩
  have hBV := HP.out.two.lt
  replace HP : Hid (PlS w B r s b o c W) := HP.out.next bW
  obtain ⟨X, hX1, hX2⟩ : ∃ X, V.heap.size + 1 = X ∧ B + 1 < X := ⟨_, rfl, by omega⟩
  rw [hX1] at hX ⊢
  have c0 : W.cell? ⟨X, 0, none⟩ = some (.int .i64 d0) := hX.cell 0 (by omega)
  have c1 : W.cell? ⟨X, 1, none⟩ = some (.int .i64 d1) := hX.cell 1 (by omega)
  have c2 : W.cell? ⟨X, 2, none⟩ = some (.int .i64 d2) := hX.cell 2 (by omega)
  have e0 := HP.out.two.c0; have e1 := HP.out.two.c1; have e2 := HP.out.two.c2; have e3 := HP.out.two.c3
  have f0 := Bk.free HP.out.two 0; have f1 := Bk.free HP.out.two 1; have f2 := Bk.free HP.out.two 2; have f3 := Bk.free HP.out.two 3
  have hXl := hX.lt
  clear hX hX1 bW hBV
  go_upto_region 4 with (fail)
  go_region
  go_wp2
  rw [hB]
  exact bodyPost_ret (place_told rfl (HP.out.two.sets d2 d1 d0 0) rfl) rfl ⟨rfl, below_sets (by omega) HP.out.below⟩

set_option maxRecDepth 100000 in
set_option maxHeartbeats 4000000 in
theorem placeOf_1 (r s b o c p d0 d1 d2 : Int)  (HA : Hid (Apart p b o r d0 d1 d2)) (w : World) :
    Calls Try.prog 19 #[.agg #[.int .i64 r, .int .i64 s, .int .i64 b, .int .i64 o, .int .i64 c], .int .i64 1, .int .i64 p] w fun e w' => e = .returned (.agg #[.int .i64 d2, .int .i64 d0, .int .i64 d1, .int .i64 0]) ∧ Below w.heap.size w w' := by
  go_enter Try.func19, Try.ntmps19
  go_wp2_with fail
  obtain ⟨B, hB⟩ : ∃ B, w.heap.size = B := ⟨_, rfl⟩
  obtain ⟨V, hV⟩ : ∃ V, (w.alloc (.cells #[.int .i64 r, .int .i64 s, .int .i64 b, .int .i64 o, .int .i64 c] 23)).alloc (.cells #[.int .i64 0, .int .i64 0, .int .i64 0, .int .i64 0] 35) = V := ⟨_, rfl⟩
  have HP : Hid (PlS w B r s b o c V) := by rw [← hV, ← hB]; exact PlS.start w r s b o c _ _
  have hs : V.heap.size = w.heap.size + 1 + 1 := by rw [← hV]; simp
  rw [hV, ← hs, hB]
  clear hV hs
  refine (HA.out V _).mono ?_
  rintro e W ⟨rfl, hX, bW⟩
  have hBV := HP.out.two.lt
  replace HP : Hid (PlS w B r s b o c W) := HP.out.next bW
  obtain ⟨X, hX1, hX2⟩ : ∃ X, V.heap.size + 1 = X ∧ B + 1 < X := ⟨_, rfl, by omega⟩
  rw [hX1] at hX ⊢
  have c0 : W.cell? ⟨X, 0, none⟩ = some (.int .i64 d0) := hX.cell 0 (by omega)
  have c1 : W.cell? ⟨X, 1, none⟩ = some (.int .i64 d1) := hX.cell 1 (by omega)
  have c2 : W.cell? ⟨X, 2, none⟩ = some (.int .i64 d2) := hX.cell 2 (by omega)
  have e0 := HP.out.two.c0; have e1 := HP.out.two.c1; have e2 := HP.out.two.c2; have e3 := HP.out.two.c3
  have f0 := Bk.free HP.out.two 0; have f1 := Bk.free HP.out.two 1; have f2 := Bk.free HP.out.two 2; have f3 := Bk.free HP.out.two 3
  have hXl := hX.lt
  clear hX hX1 bW hBV
  go_upto_region 7 with (fail)
  go_region
  go_wp2
  rw [hB]
  exact bodyPost_ret (place_told rfl (HP.out.two.sets d2 d0 d1 0) rfl) rfl ⟨rfl, below_sets (by omega) HP.out.below⟩

set_option maxRecDepth 100000 in
set_option maxHeartbeats 4000000 in
theorem placeOf_2 (r s b o c p d0 d1 d2 : Int)  (HA : Hid (Apart p r b o d0 d1 d2)) (w : World) :
    Calls Try.prog 19 #[.agg #[.int .i64 r, .int .i64 s, .int .i64 b, .int .i64 o, .int .i64 c], .int .i64 2, .int .i64 p] w fun e w' => e = .returned (.agg #[.int .i64 d0, .int .i64 d1, .int .i64 d2, .int .i64 0]) ∧ Below w.heap.size w w' := by
  go_enter Try.func19, Try.ntmps19
  go_wp2_with fail
  obtain ⟨B, hB⟩ : ∃ B, w.heap.size = B := ⟨_, rfl⟩
  obtain ⟨V, hV⟩ : ∃ V, (w.alloc (.cells #[.int .i64 r, .int .i64 s, .int .i64 b, .int .i64 o, .int .i64 c] 23)).alloc (.cells #[.int .i64 0, .int .i64 0, .int .i64 0, .int .i64 0] 35) = V := ⟨_, rfl⟩
  have HP : Hid (PlS w B r s b o c V) := by rw [← hV, ← hB]; exact PlS.start w r s b o c _ _
  have hs : V.heap.size = w.heap.size + 1 + 1 := by rw [← hV]; simp
  rw [hV, ← hs, hB]
  clear hV hs
  refine (HA.out V _).mono ?_
  rintro e W ⟨rfl, hX, bW⟩
  have hBV := HP.out.two.lt
  replace HP : Hid (PlS w B r s b o c W) := HP.out.next bW
  obtain ⟨X, hX1, hX2⟩ : ∃ X, V.heap.size + 1 = X ∧ B + 1 < X := ⟨_, rfl, by omega⟩
  rw [hX1] at hX ⊢
  have c0 : W.cell? ⟨X, 0, none⟩ = some (.int .i64 d0) := hX.cell 0 (by omega)
  have c1 : W.cell? ⟨X, 1, none⟩ = some (.int .i64 d1) := hX.cell 1 (by omega)
  have c2 : W.cell? ⟨X, 2, none⟩ = some (.int .i64 d2) := hX.cell 2 (by omega)
  have hXl := hX.lt
  clear hX hX1 bW hBV
  go_upto_region 9 with (fail)
  go_region
  obtain ⟨D, hD⟩ : ∃ D, W.heap.size = D := ⟨_, rfl⟩
  obtain ⟨V2, hV2⟩ : ∃ V2, (W.alloc (.cells #[.int .i64 d0, .int .i64 d1, .int .i64 d2, .int .i64 0] 35)).drew = V2 := ⟨_, rfl⟩
  have hPD : Pl V2 D d0 d1 d2 0 := by rw [← hV2, ← hD]; exact Bk.drew (Pl.new W d0 d1 d2 0 _)
  replace HP : Hid (PlS w B r s b o c V2) := by rw [← hV2]; exact HP.out.next (below_drew8 ((Below.refl _ W).alloc (Nat.le_refl _) _))
  rw [hV2, hD]
  rw [hD] at hXl
  have hBD : B + 1 < D := by omega
  clear hV2 hD c0 c1 c2 hXl hX2
  have e0 := HP.out.two.c0; have e1 := HP.out.two.c1; have e2 := HP.out.two.c2; have e3 := HP.out.two.c3
  have f0 := Bk.free HP.out.two 0; have f1 := Bk.free HP.out.two 1; have f2 := Bk.free HP.out.two 2; have f3 := Bk.free HP.out.two 3
  have y0 := hPD.c0; have y1 := hPD.c1; have y2 := hPD.c2; have y3 := hPD.c3
  clear hPD
  go_wp2
  rw [hB]
  exact bodyPost_ret (place_told rfl (HP.out.two.sets' d0 d1 d2 0) rfl) rfl ⟨rfl, below_sets' (by omega) HP.out.below⟩

set_option maxRecDepth 100000 in
set_option maxHeartbeats 4000000 in
theorem placeOf_3 (r s b o c p d0 d1 d2 : Int) (hb : pw b 16 = true) (h1 : 0 ≤ d1 ∧ d1 < 1000) (HA : Hid (Apart p r b o d0 d1 d2)) (w : World) :
    Calls Try.prog 19 #[.agg #[.int .i64 r, .int .i64 s, .int .i64 b, .int .i64 o, .int .i64 c], .int .i64 3, .int .i64 p] w fun e w' => e = .returned (.agg #[.int .i64 d0, .int .i64 (mx b d1 d2), .int .i64 d2, .int .i64 0]) ∧ Below w.heap.size w w' := by
  have HM : Hid (∀ w, Calls Try.prog 30 #[.agg #[.int .i64 r, .int .i64 s, .int .i64 b, .int .i64 o, .int .i64 c], .agg #[.int .i64 d0, .int .i64 d1, .int .i64 d2, .int .i64 0]] w fun e w' => e = .returned (.int .i64 (mx b d1 d2)) ∧ Below w.heap.size w w') := fun w => mix_any r s b o c d0 d1 d2 0 hb h1 w
  obtain ⟨m, hm⟩ : ∃ m, mx b d1 d2 = m := ⟨_, rfl⟩
  rw [hm] at HM ⊢
  clear hm hb h1
  go_enter Try.func19, Try.ntmps19
  go_wp2_with fail
  obtain ⟨B, hB⟩ : ∃ B, w.heap.size = B := ⟨_, rfl⟩
  obtain ⟨V, hV⟩ : ∃ V, (w.alloc (.cells #[.int .i64 r, .int .i64 s, .int .i64 b, .int .i64 o, .int .i64 c] 23)).alloc (.cells #[.int .i64 0, .int .i64 0, .int .i64 0, .int .i64 0] 35) = V := ⟨_, rfl⟩
  have HP : Hid (PlS w B r s b o c V) := by rw [← hV, ← hB]; exact PlS.start w r s b o c _ _
  have hs : V.heap.size = w.heap.size + 1 + 1 := by rw [← hV]; simp
  rw [hV, ← hs, hB]
  clear hV hs
  refine (HA.out V _).mono ?_
  rintro e W ⟨rfl, hX, bW⟩
  have hBV := HP.out.two.lt
  replace HP : Hid (PlS w B r s b o c W) := HP.out.next bW
  obtain ⟨X, hX1, hX2⟩ : ∃ X, V.heap.size + 1 = X ∧ B + 1 < X := ⟨_, rfl, by omega⟩
  rw [hX1] at hX ⊢
  have c0 : W.cell? ⟨X, 0, none⟩ = some (.int .i64 d0) := hX.cell 0 (by omega)
  have c1 : W.cell? ⟨X, 1, none⟩ = some (.int .i64 d1) := hX.cell 1 (by omega)
  have c2 : W.cell? ⟨X, 2, none⟩ = some (.int .i64 d2) := hX.cell 2 (by omega)
  have hXl := hX.lt
  clear hX hX1 bW hBV
  go_upto_region 9 with (fail)
  go_region
  obtain ⟨D, hD⟩ : ∃ D, W.heap.size = D := ⟨_, rfl⟩
  obtain ⟨V2, hV2⟩ : ∃ V2, (W.alloc (.cells #[.int .i64 d0, .int .i64 d1, .int .i64 d2, .int .i64 0] 35)).drew = V2 := ⟨_, rfl⟩
  have hPD : Pl V2 D d0 d1 d2 0 := by rw [← hV2, ← hD]; exact Bk.drew (Pl.new W d0 d1 d2 0 _)
  replace HP : Hid (PlS w B r s b o c V2) := by rw [← hV2]; exact HP.out.next (below_drew8 ((Below.refl _ W).alloc (Nat.le_refl _) _))
  rw [hV2, hD]
  rw [hD] at hXl
  have hBD : B + 1 < D := by omega
  clear hV2 hD c0 c1 c2 hXl hX2
  have g0 := HP.out.one.c0; have g1 := HP.out.one.c1; have g2 := HP.out.one.c2; have g3 := HP.out.one.c3; have g4 := HP.out.one.c4
  have y0 := hPD.c0; have y1 := hPD.c1; have y2 := hPD.c2; have y3 := hPD.c3
  go_wp2_with fail
  refine (HM.out _).mono ?_
  rintro e W4 ⟨rfl, b4⟩
  replace HP : Hid (PlS w B r s b o c W4) := HP.out.next b4
  replace hPD := hPD.next b4
  clear b4 g0 g1 g2 g3 g4 y0 y1 y2 y3
  have fD := Bk.free hPD 1
  have HPD : Hid (Pl W4 D d0 d1 d2 0) := hPD
  have e0 := HP.out.two.c0; have e1 := HP.out.two.c1; have e2 := HP.out.two.c2; have e3 := HP.out.two.c3
  have f0 := Bk.free HP.out.two 0; have f1 := Bk.free HP.out.two 1; have f2 := Bk.free HP.out.two 2; have f3 := Bk.free HP.out.two 3
  have y0 := hPD.c0; have y1 := hPD.c1; have y2 := hPD.c2; have y3 := hPD.c3
  clear hPD
  go_wp2
  rw [hB]
  exact bodyPost_ret (place_told rfl (Pl.sets' (Bk.other HP.out.two (by omega) 1 (.int .i64 m)) d0 m d2 0) rfl) rfl ⟨rfl, below_sets' (by omega) (HP.out.below.setCell (p := ⟨D, 1, none⟩) (by show B ≤ D; omega) _)⟩
end Go.Proofs.Ytalbloeaojpbgaa
