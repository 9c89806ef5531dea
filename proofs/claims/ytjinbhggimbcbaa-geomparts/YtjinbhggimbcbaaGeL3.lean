/-
  GeomPlaces.
-/
import Derived.Test.YtjinbhggimbcbaaGeL2
namespace Go.Proofs.Ytjinbhggimbcbaa
open Go.RowKit
open Ge (pw rt hd ix)

/-- a geometry and a place in B, B + 1; the geometry again in X -/
structure GP (B X : Nat) (r s b o c p q u v : Int) (w W : World) : Prop where
  g : Gm W B r s b o c
  p : Pl W (B + 1) p q u v
  x : Gm W X r s b o c
  below : Below B w W
theorem GP.next {B X : Nat} {r s b o c p q u v : Int} {w W W' : World} (h : GP B X r s b o c p q u v w W) (k : Below W.heap.size W W') : GP B X r s b o c p q u v w W' :=
  ⟨h.g.next k, h.p.next k, h.x.next k, h.below.trans (k.mono (Nat.le_of_lt h.g.lt))⟩
theorem place_ix {r s b o c p q u v : Int} (h : hd r s b o c p q u v = true) : ix p q u v / 1048576 = p ∧ ix p q u v / 65536 % 16 = q ∧ ix p q u v / 64 % 1024 = u ∧ ix p q u v % 64 = v := by
  have := hd_bounds h
  unfold ix
  omega
theorem ix_place (i : Int) : ix (i / 1048576) (i / 65536 % 16) (i / 64 % 1024) (i % 64) = i := by unfold ix; omega
/-- what At tells of any index -/
theorem at_told_any (r s b o c n : Int) : ∃ p1 q1 u1 v1 f : Int, Hid ((hx r s b o c n = true ∧ f = 0 ∧ (p1 = n / 1048576 ∧ q1 = n / 65536 % 16 ∧ u1 = n / 64 % 1024 ∧ v1 = n % 64)) ∨ (hx r s b o c n = false ∧ f = 12 ∧ (p1 = 0 ∧ q1 = 0 ∧ u1 = 0 ∧ v1 = 0))) ∧
    Hid (∀ w : World, Calls Try.prog 14 #[.agg #[.int .i64 r, .int .i64 s, .int .i64 b, .int .i64 o, .int .i64 c], .int .i64 n] w fun e w' => e = .returned (.tuple #[.agg #[.int .i64 p1, .int .i64 q1, .int .i64 u1, .int .i64 v1], .int .i64 f]) ∧ Below w.heap.size w w') := by
  cases h : hx r s b o c n with
  | true => exact ⟨_, _, _, _, _, .inl ⟨rfl, rfl, rfl, rfl, rfl, rfl⟩, fun w => at_yes r s b o c n h w⟩
  | false => exact ⟨_, _, _, _, _, .inr ⟨rfl, rfl, rfl, rfl, rfl, rfl⟩, fun w => at_no r s b o c n h w⟩

set_option maxRecDepth 100000 in
set_option maxHeartbeats 8000000 in
theorem geomPlaces_core (r s b o c p q u v n : Int) (hr : I64 r) (hb : I64 b) (ho : I64 o) (hc : I64 c) (_hn0 : -9223372036854775808 ≤ n) (hn1 : n < 9223372036854775808) (w : World) :
    Calls Try.prog 3 #[.agg #[.int .i64 r, .int .i64 s, .int .i64 b, .int .i64 o, .int .i64 c], .agg #[.int .i64 p, .int .i64 q, .int .i64 u, .int .i64 v], .int .i64 n] w fun e w' => e = .returned (.bool true) ∧ Below w.heap.size w w' := by
  obtain ⟨z0, Z0⟩ : ∃ z, Hid (rt r s b o c = z) := ⟨_, rfl⟩
  obtain ⟨z1, Z1⟩ : ∃ z, Hid (hd r s b o c p q u v = z) := ⟨_, rfl⟩
  have HR : Hid (∀ w, Calls Try.prog 10 #[.agg #[.int .i64 r, .int .i64 s, .int .i64 b, .int .i64 o, .int .i64 c]] w fun e w' => e = .returned (.bool z0) ∧ Below w.heap.size w w') := fun w => by rw [← Z0.out]; exact right_any r s b o c w
  have HR' : Hid (∀ w, Calls Try.prog 11 #[.agg #[.int .i64 r, .int .i64 s, .int .i64 b, .int .i64 o, .int .i64 c]] w fun e w' => e = .returned (.bool z0) ∧ Below w.heap.size w w') := fun w => by rw [← Z0.out]; exact refRight_any r s b o c hr hb ho hc w
  have HH : Hid (∀ w, Calls Try.prog 12 #[.agg #[.int .i64 r, .int .i64 s, .int .i64 b, .int .i64 o, .int .i64 c], .agg #[.int .i64 p, .int .i64 q, .int .i64 u, .int .i64 v]] w fun e w' => e = .returned (.bool z1) ∧ Below w.heap.size w w') := fun w => by rw [← Z1.out]; exact holds_any r s b o c p q u v w
  have HH' : Hid (∀ w, Calls Try.prog 13 #[.agg #[.int .i64 r, .int .i64 s, .int .i64 b, .int .i64 o, .int .i64 c], .agg #[.int .i64 p, .int .i64 q, .int .i64 u, .int .i64 v]] w fun e w' => e = .returned (.bool z1) ∧ Below w.heap.size w w') := fun w => by rw [← Z1.out]; exact refHolds_any r s b o c p q u v hr hb ho hc w
  obtain ⟨i, f, Hi, C1⟩ := index_told r s b o c p q u v
  obtain ⟨p1, q1, u1, v1, f1, Hn, C2⟩ := at_told_any r s b o c n
  have HP : Hid (∀ p q u v (w : World), Calls Try.prog 13 #[.agg #[.int .i64 r, .int .i64 s, .int .i64 b, .int .i64 o, .int .i64 c], .agg #[.int .i64 p, .int .i64 q, .int .i64 u, .int .i64 v]] w fun e w' => e = .returned (.bool (hd r s b o c p q u v)) ∧ Below w.heap.size w w') := fun p q u v w => refHolds_any r s b o c p q u v hr hb ho hc w
  clear hr hb ho hc
  go_enter Try.func3, Try.ntmps3
  go_wp2_with fail
  obtain ⟨B, hB⟩ : ∃ B, w.heap.size = B := ⟨_, rfl⟩
  obtain ⟨V, hV⟩ : ∃ V, (w.alloc (.cells #[.int .i64 r, .int .i64 s, .int .i64 b, .int .i64 o, .int .i64 c] 23)).alloc (.cells #[.int .i64 p, .int .i64 q, .int .i64 u, .int .i64 v] 25) = V := ⟨_, rfl⟩
  have h0 : Gm V B r s b o c := by rw [← hV, ← hB]; exact (Gm.new w r s b o c 23).alloc _
  have h1 : Pl V (B + 1) p q u v := by
    have := Pl.new (w.alloc (.cells #[.int .i64 r, .int .i64 s, .int .i64 b, .int .i64 o, .int .i64 c] 23)) p q u v 25
    rw [hV, World.size_alloc, hB] at this
    exact this
  have h2 : Below B w V := by rw [← hV, ← hB]; exact ((Below.refl _ w).alloc (Nat.le_refl _) _).alloc (by simp) _
  rw [hV, hB]
  clear hV
  refine (anchor7_any _).mono ?_
  rintro e W1 ⟨rfl, bW⟩
  replace h2 := h2.trans (bW.mono (Nat.le_of_lt h0.lt))
  replace h0 := h0.next bW
  replace h1 := h1.next bW
  clear bW
  have g0 := h0.c0; have g1 := h0.c1; have g2 := h0.c2; have g3 := h0.c3; have g4 := h0.c4
  have p0 := h1.c0; have j1 := h1.c1; have j2 := h1.c2; have j3 := h1.c3
  have l0 := h0.lt; have l1 := h1.lt
  have H012 : Hid (Gm W1 B r s b o c ∧ Pl W1 (B + 1) p q u v ∧ Below B w W1) := ⟨h0, h1, h2⟩
  clear h0 h1 h2
  go_wp2_with fail
  obtain ⟨X, hX⟩ : ∃ X, W1.heap.size = X := ⟨_, rfl⟩
  obtain ⟨V, hV⟩ : ∃ V, W1.alloc (.cells #[.int .i64 r, .int .i64 s, .int .i64 b, .int .i64 o, .int .i64 c] 27) = V := ⟨_, rfl⟩
  have HS : Hid (GP B X r s b o c p q u v w V) := by
    obtain ⟨h0, h1, h2⟩ := H012.out
    rw [← hV, ← hX]
    exact ⟨h0.alloc _, h1.alloc _, Gm.new W1 r s b o c _, h2.alloc (Nat.le_of_lt l0) _⟩
  rw [hV, hX]
  clear hV hX g0 g1 g2 g3 g4 p0 j1 j2 j3 l0 l1 H012
  refine (C1.out _).mono ?_
  rintro e W2 ⟨rfl, bW⟩
  replace HS : Hid (GP B X r s b o c p q u v w W2) := HS.out.next bW
  clear bW
  go_wp2
  refine region_calm (by kernel_rfl) (by kernel_rfl) (fun W => Below W2.heap.size W2 W) (below_drew1 W2) ?_
  intro U hU fw hf hof
  have HN : Hid (∀ x W, Below (fw x).heap.size (fw x) W → ∃ y, W = fw y) := fun x W h => hof W ((hf x).trans (h.mono (hf x).size))
  have HF : Hid (∀ x, GP B X r s b o c p q u v w (fw x)) := fun x => HS.out.next (hf x)
  have g0 : ∀ x, (fw x).cell? ⟨B, 0, none⟩ = some (.int .i64 r) := fun x => (HF.out x).g.c0
  have g1 : ∀ x, (fw x).cell? ⟨B, 1, none⟩ = some (.int .i64 s) := fun x => (HF.out x).g.c1
  have g2 : ∀ x, (fw x).cell? ⟨B, 2, none⟩ = some (.int .i64 b) := fun x => (HF.out x).g.c2
  have g3 : ∀ x, (fw x).cell? ⟨B, 3, none⟩ = some (.int .i64 o) := fun x => (HF.out x).g.c3
  have g4 : ∀ x, (fw x).cell? ⟨B, 4, none⟩ = some (.int .i64 c) := fun x => (HF.out x).g.c4
  have x0 : ∀ x, (fw x).cell? ⟨X, 0, none⟩ = some (.int .i64 r) := fun x => (HF.out x).x.c0
  have x1 : ∀ x, (fw x).cell? ⟨X, 1, none⟩ = some (.int .i64 s) := fun x => (HF.out x).x.c1
  have x2 : ∀ x, (fw x).cell? ⟨X, 2, none⟩ = some (.int .i64 b) := fun x => (HF.out x).x.c2
  have x3 : ∀ x, (fw x).cell? ⟨X, 3, none⟩ = some (.int .i64 o) := fun x => (HF.out x).x.c3
  have x4 : ∀ x, (fw x).cell? ⟨X, 4, none⟩ = some (.int .i64 c) := fun x => (HF.out x).x.c4
  have j0 : ∀ x, (fw x).cell? ⟨B + 1, 0, none⟩ = some (.int .i64 p) := fun x => (HF.out x).p.c0
  have j1 : ∀ x, (fw x).cell? ⟨B + 1, 1, none⟩ = some (.int .i64 q) := fun x => (HF.out x).p.c1
  have j2 : ∀ x, (fw x).cell? ⟨B + 1, 2, none⟩ = some (.int .i64 u) := fun x => (HF.out x).p.c2
  have j3 : ∀ x, (fw x).cell? ⟨B + 1, 3, none⟩ = some (.int .i64 v) := fun x => (HF.out x).p.c3
  clear hf hof
  repeat (go_big_quiet_step ((first | (go_at_call 10; exact calm_next HN.out (HR.out _)) | (go_at_call 11; exact calm_next HN.out (HR'.out _)) | (go_at_call 12; exact calm_next HN.out (HH.out _)) | (go_at_call 13; exact calm_next HN.out (HH'.out _)))))
  refine wpQuiet_nil ?_
  rintro _ ⟨x9, rfl⟩
  replace HS : Hid (GP B X r s b o c p q u v w (fw x9)) := HF.out x9
  obtain ⟨W3, hW3⟩ : ∃ W3, fw x9 = W3 := ⟨_, rfl⟩
  rw [hW3] at HS ⊢
  clear hW3 HN HF g0 g1 g2 g3 g4 x0 x1 x2 x3 x4 j0 j1 j2 j3 fw hU
  have x0 := HS.out.x.c0; have x1 := HS.out.x.c1; have x2 := HS.out.x.c2; have x3 := HS.out.x.c3; have x4 := HS.out.x.c4
  have j0 := HS.out.p.c0; have j1 := HS.out.p.c1; have j2 := HS.out.p.c2; have j3 := HS.out.p.c3
  go_wp2_with fail
  refine (HH'.out _).mono ?_
  rintro e W4 ⟨rfl, bW⟩
  replace HS : Hid (GP B X r s b o c p q u v w W4) := HS.out.next bW
  clear bW x0 x1 x2 x3 x4 j0 j1 j2 j3
  cases z1 with
  | true =>
    obtain ⟨hp, rfl, rfl⟩ : hd r s b o c p q u v = true ∧ i = ix p q u v ∧ f = 0 := by
      rcases Hi.out with h | h
      · exact h
      · rw [Z1.out] at h; cases h.1
    have hpl := place_ix hp
    have C3 : Hid (∀ w, Calls Try.prog 14 #[.agg #[.int .i64 r, .int .i64 s, .int .i64 b, .int .i64 o, .int .i64 c], .int .i64 (ix p q u v)] w fun e w' => e = .returned (.tuple #[.agg #[.int .i64 p, .int .i64 q, .int .i64 u, .int .i64 v], .int .i64 0]) ∧ Below w.heap.size w w') := fun w => by
      have := at_yes r s b o c (ix p q u v) (by unfold hx; rw [hpl.1, hpl.2.1, hpl.2.2.1, hpl.2.2.2]; exact hp) w
      rw [hpl.1, hpl.2.1, hpl.2.2.1, hpl.2.2.2] at this
      exact this
    have C4 : Hid (∀ w, Calls Try.prog 15 #[.agg #[.int .i64 p, .int .i64 q, .int .i64 u, .int .i64 v]] w fun e w' => e = .returned (.int .i64 (ix p q u v)) ∧ Below w.heap.size w w') := fun w => by obtain ⟨h1, h2, h3, h4⟩ := hd_bounds hp; exact refIndex_any p q u v h1 h2 h3 h4 w
    obtain ⟨i, HI⟩ : ∃ i, Hid (ix p q u v = i) := ⟨_, rfl⟩
    rw [HI.out] at C3 C4 ⊢
    clear Hi C1 hp hpl Z1 HH HH' HR HR' Z0 HI
    have g0 := HS.out.g.c0; have g1 := HS.out.g.c1; have g2 := HS.out.g.c2; have g3 := HS.out.g.c3; have g4 := HS.out.g.c4
    go_wp2_with fail
    refine (C3.out _).mono ?_
    rintro e W5 ⟨rfl, bW⟩
    replace HS : Hid (GP B X r s b o c p q u v w W5) := HS.out.next bW
    clear bW g0 g1 g2 g3 g4
    have l5 := HS.out.g.lt
    go_upto_region 9 with (fail)
    obtain ⟨D, hD⟩ : ∃ D, W5.heap.size = D := ⟨_, rfl⟩
    obtain ⟨V6, hV6⟩ : ∃ V, W5.alloc (.cells #[.int .i64 p, .int .i64 q, .int .i64 u, .int .i64 v] 25) = V := ⟨_, rfl⟩
    have HD : Hid (Pl V6 D p q u v) := by rw [← hV6, ← hD]; exact Pl.new W5 p q u v _
    replace HS : Hid (GP B X r s b o c p q u v w V6) := by rw [← hV6]; exact HS.out.next ((Below.refl _ W5).alloc (Nat.le_refl _) _)
    rw [hV6, hD]
    clear hV6 hD l5
    have j0 := HS.out.p.c0; have j1 := HS.out.p.c1; have j2 := HS.out.p.c2; have j3 := HS.out.p.c3
    have d0 := HD.out.c0; have d1 := HD.out.c1; have d2 := HD.out.c2; have d3 := HD.out.c3
    go_wp2_with fail
    refine (C4.out _).mono ?_
    rintro e W7 ⟨rfl, bW⟩
    replace HS : Hid (GP B X r s b o c p q u v w W7) := HS.out.next bW
    replace HD : Hid (Pl W7 D p q u v) := HD.out.next bW
    clear bW j0 j1 j2 j3 d0 d1 d2 d3
    have j0 := HS.out.p.c0; have j1 := HS.out.p.c1; have j2 := HS.out.p.c2; have j3 := HS.out.p.c3
    have d0 := HD.out.c0; have d1 := HD.out.c1; have d2 := HD.out.c2; have d3 := HD.out.c3
    go_upto_region 13 with (fail)
    clear j0 j1 j2 j3 d0 d1 d2 d3
    have g0 := HS.out.g.c0; have g1 := HS.out.g.c1; have g2 := HS.out.g.c2; have g3 := HS.out.g.c3; have g4 := HS.out.g.c4
    go_wp2_with fail
    refine (C2.out _).mono ?_
    rintro e W8 ⟨rfl, bW⟩
    replace HS : Hid (GP B X r s b o c p q u v w W8) := HS.out.next bW
    clear bW g0 g1 g2 g3 g4
    have l8 := HS.out.g.lt
    go_upto_region 14 with (fail)
    obtain ⟨Y, hY⟩ : ∃ Y, W8.heap.size = Y := ⟨_, rfl⟩
    obtain ⟨V9, hV9⟩ : ∃ V, W8.alloc (.cells #[.int .i64 p1, .int .i64 q1, .int .i64 u1, .int .i64 v1] 25) = V := ⟨_, rfl⟩
    have HY : Hid (Pl V9 Y p1 q1 u1 v1) := by rw [← hV9, ← hY]; exact Pl.new W8 p1 q1 u1 v1 _
    replace HS : Hid (GP B X r s b o c p q u v w V9) := by rw [← hV9]; exact HS.out.next ((Below.refl _ W8).alloc (Nat.le_refl _) _)
    rw [hV9, hY]
    clear hV9 hY l8
    rcases Hn.out with ⟨hxn, rfl, rfl, rfl, rfl, rfl⟩ | ⟨hxn, rfl, rfl, rfl, rfl, rfl⟩
    · have hz : 0 ≤ n := by have := hd_bounds hxn; omega
      obtain ⟨a0, A0⟩ : ∃ x, Hid (n / 1048576 = x) := ⟨_, rfl⟩
      obtain ⟨a1, A1⟩ : ∃ x, Hid (n / 65536 % 16 = x) := ⟨_, rfl⟩
      obtain ⟨a2, A2⟩ : ∃ x, Hid (n / 64 % 1024 = x) := ⟨_, rfl⟩
      obtain ⟨a3, A3⟩ : ∃ x, Hid (n % 64 = x) := ⟨_, rfl⟩
      have CI : Hid (∀ w, Calls Try.prog 9 #[.agg #[.int .i64 r, .int .i64 s, .int .i64 b, .int .i64 o, .int .i64 c], .agg #[.int .i64 a0, .int .i64 a1, .int .i64 a2, .int .i64 a3]] w fun e w' => e = .returned (.tuple #[.int .i64 n, .int .i64 0]) ∧ Below w.heap.size w w') := fun w => by have := index_yes r s b o c _ _ _ _ hxn w; rw [ix_place, A0.out, A1.out, A2.out, A3.out] at this; exact this
      have CL : Hid (∀ w, Calls Try.prog 16 #[.int .i64 n] w fun e w' => e = .returned (.agg #[.int .i64 a0, .int .i64 a1, .int .i64 a2, .int .i64 a3]) ∧ Below w.heap.size w w') := fun w => by have := refPlace_any n hz hn1 w; rw [A0.out, A1.out, A2.out, A3.out] at this; exact this
      rw [A0.out, A1.out, A2.out, A3.out] at HY ⊢
      clear hxn Hn C2 A0 A1 A2 A3
      have g0 := HS.out.g.c0; have g1 := HS.out.g.c1; have g2 := HS.out.g.c2; have g3 := HS.out.g.c3; have g4 := HS.out.g.c4
      have y0 := HY.out.c0; have y1 := HY.out.c1; have y2 := HY.out.c2; have y3 := HY.out.c3
      go_wp2_with fail
      refine (CI.out _).mono ?_
      rintro e W10 ⟨rfl, bW⟩
      replace HS : Hid (GP B X r s b o c p q u v w W10) := HS.out.next bW
      replace HY : Hid (Pl W10 Y a0 a1 a2 a3) := HY.out.next bW
      clear bW g0 g1 g2 g3 g4 y0 y1 y2 y3
      go_wp2
      refine region_calm (by kernel_rfl) (by kernel_rfl) (fun W => Below W10.heap.size W10 W) (below_drew1 W10) ?_
      intro U hU fw hf hof
      have HN : Hid (∀ x W, Below (fw x).heap.size (fw x) W → ∃ y, W = fw y) := fun x W h => hof W ((hf x).trans (h.mono (hf x).size))
      have HF : Hid (∀ x, GP B X r s b o c p q u v w (fw x)) := fun x => HS.out.next (hf x)
      have y0 : ∀ x, (fw x).cell? ⟨Y, 0, none⟩ = some (.int .i64 a0) := fun x => (HY.out.next (hf x)).c0
      have y1 : ∀ x, (fw x).cell? ⟨Y, 1, none⟩ = some (.int .i64 a1) := fun x => (HY.out.next (hf x)).c1
      have y2 : ∀ x, (fw x).cell? ⟨Y, 2, none⟩ = some (.int .i64 a2) := fun x => (HY.out.next (hf x)).c2
      have y3 : ∀ x, (fw x).cell? ⟨Y, 3, none⟩ = some (.int .i64 a3) := fun x => (HY.out.next (hf x)).c3
      clear hf hof
      repeat (go_big_quiet_step ((go_at_call 16; exact calm_next HN.out (CL.out _))))
      refine wpQuiet_nil ?_
      rintro _ ⟨x9, rfl⟩
      go_wp2
      go_ret
      exact ⟨rfl, by rw [hB]; exact (HF.out x9).below⟩
    · by_cases hz : 0 ≤ n
      · have CL : Hid (∀ w, Calls Try.prog 16 #[.int .i64 n] w fun e w' => e = .returned (.agg #[.int .i64 (n / 1048576), .int .i64 (n / 65536 % 16), .int .i64 (n / 64 % 1024), .int .i64 (n % 64)]) ∧ Below w.heap.size w w') := fun w => refPlace_any n hz hn1 w
        have CH : Hid (∀ w, Calls Try.prog 13 #[.agg #[.int .i64 r, .int .i64 s, .int .i64 b, .int .i64 o, .int .i64 c], .agg #[.int .i64 (n / 1048576), .int .i64 (n / 65536 % 16), .int .i64 (n / 64 % 1024), .int .i64 (n % 64)]] w fun e w' => e = .returned (.bool false) ∧ Below w.heap.size w w') := fun w => by have := HP.out (n / 1048576) (n / 65536 % 16) (n / 64 % 1024) (n % 64) w; rw [show hd r s b o c (n / 1048576) (n / 65536 % 16) (n / 64 % 1024) (n % 64) = false from hxn] at this; exact this
        obtain ⟨a0, A0⟩ : ∃ x, Hid (n / 1048576 = x) := ⟨_, rfl⟩
        obtain ⟨a1, A1⟩ : ∃ x, Hid (n / 65536 % 16 = x) := ⟨_, rfl⟩
        obtain ⟨a2, A2⟩ : ∃ x, Hid (n / 64 % 1024 = x) := ⟨_, rfl⟩
        obtain ⟨a3, A3⟩ : ∃ x, Hid (n % 64 = x) := ⟨_, rfl⟩
        rw [A0.out, A1.out, A2.out, A3.out] at CL CH
        have dz : decide (n < 0) = false := decide_eq_false (by omega)
        clear hxn Hn C2 A0 A1 A2 A3 hz HP
        go_wp2
        refine region_calm (by kernel_rfl) (by kernel_rfl) (fun W => Below V9.heap.size V9 W) (below_drew1 V9) ?_
        intro U hU fw hf hof
        have HN : Hid (∀ x W, Below (fw x).heap.size (fw x) W → ∃ y, W = fw y) := fun x W h => hof W ((hf x).trans (h.mono (hf x).size))
        have HF : Hid (∀ x, GP B X r s b o c p q u v w (fw x)) := fun x => HS.out.next (hf x)
        have x0 : ∀ x, (fw x).cell? ⟨X, 0, none⟩ = some (.int .i64 r) := fun x => (HF.out x).x.c0
        have x1 : ∀ x, (fw x).cell? ⟨X, 1, none⟩ = some (.int .i64 s) := fun x => (HF.out x).x.c1
        have x2 : ∀ x, (fw x).cell? ⟨X, 2, none⟩ = some (.int .i64 b) := fun x => (HF.out x).x.c2
        have x3 : ∀ x, (fw x).cell? ⟨X, 3, none⟩ = some (.int .i64 o) := fun x => (HF.out x).x.c3
        have x4 : ∀ x, (fw x).cell? ⟨X, 4, none⟩ = some (.int .i64 c) := fun x => (HF.out x).x.c4
        have y0 : ∀ x, (fw x).cell? ⟨Y, 0, none⟩ = some (.int .i64 0) := fun x => (HY.out.next (hf x)).c0
        have y1 : ∀ x, (fw x).cell? ⟨Y, 1, none⟩ = some (.int .i64 0) := fun x => (HY.out.next (hf x)).c1
        have y2 : ∀ x, (fw x).cell? ⟨Y, 2, none⟩ = some (.int .i64 0) := fun x => (HY.out.next (hf x)).c2
        have y3 : ∀ x, (fw x).cell? ⟨Y, 3, none⟩ = some (.int .i64 0) := fun x => (HY.out.next (hf x)).c3
        clear hf hof
        repeat (go_big_quiet_step ((first | (go_at_call 16; exact calm_next HN.out (CL.out _)) | (go_at_call 13; exact calm_next HN.out (CH.out _)))))
        refine wpQuiet_nil ?_
        rintro _ ⟨x9, rfl⟩
        go_wp2
        go_ret
        exact ⟨rfl, by rw [hB]; exact (HF.out x9).below⟩
      · have dz : decide (n < 0) = true := decide_eq_true (by omega)
        clear hxn Hn C2 hz HP
        go_wp2
        refine region_calm (by kernel_rfl) (by kernel_rfl) (fun W => Below V9.heap.size V9 W) (below_drew1 V9) ?_
        intro U hU fw hf hof
        have HN : Hid (∀ x W, Below (fw x).heap.size (fw x) W → ∃ y, W = fw y) := fun x W h => hof W ((hf x).trans (h.mono (hf x).size))
        have HF : Hid (∀ x, GP B X r s b o c p q u v w (fw x)) := fun x => HS.out.next (hf x)
        have x0 : ∀ x, (fw x).cell? ⟨X, 0, none⟩ = some (.int .i64 r) := fun x => (HF.out x).x.c0
        have x1 : ∀ x, (fw x).cell? ⟨X, 1, none⟩ = some (.int .i64 s) := fun x => (HF.out x).x.c1
        have x2 : ∀ x, (fw x).cell? ⟨X, 2, none⟩ = some (.int .i64 b) := fun x => (HF.out x).x.c2
        have x3 : ∀ x, (fw x).cell? ⟨X, 3, none⟩ = some (.int .i64 o) := fun x => (HF.out x).x.c3
        have x4 : ∀ x, (fw x).cell? ⟨X, 4, none⟩ = some (.int .i64 c) := fun x => (HF.out x).x.c4
        have y0 : ∀ x, (fw x).cell? ⟨Y, 0, none⟩ = some (.int .i64 0) := fun x => (HY.out.next (hf x)).c0
        have y1 : ∀ x, (fw x).cell? ⟨Y, 1, none⟩ = some (.int .i64 0) := fun x => (HY.out.next (hf x)).c1
        have y2 : ∀ x, (fw x).cell? ⟨Y, 2, none⟩ = some (.int .i64 0) := fun x => (HY.out.next (hf x)).c2
        have y3 : ∀ x, (fw x).cell? ⟨Y, 3, none⟩ = some (.int .i64 0) := fun x => (HY.out.next (hf x)).c3
        clear hf hof
        repeat (go_big_quiet_step (fail))
        refine wpQuiet_nil ?_
        rintro _ ⟨x9, rfl⟩
        go_wp2
        go_ret
        exact ⟨rfl, by rw [hB]; exact (HF.out x9).below⟩
  | false =>
    rcases Hi.out with ⟨hp, hi, rfl⟩ | ⟨hp, rfl, rfl⟩
    · rw [Z1.out] at hp; cases hp
    clear Hi C1 hp Z1 HH HH' HR HR' Z0
    go_upto_region 13 with (fail)
    have g0 := HS.out.g.c0; have g1 := HS.out.g.c1; have g2 := HS.out.g.c2; have g3 := HS.out.g.c3; have g4 := HS.out.g.c4
    go_wp2_with fail
    refine (C2.out _).mono ?_
    rintro e W8 ⟨rfl, bW⟩
    replace HS : Hid (GP B X r s b o c p q u v w W8) := HS.out.next bW
    clear bW g0 g1 g2 g3 g4
    have l8 := HS.out.g.lt
    go_upto_region 14 with (fail)
    obtain ⟨Y, hY⟩ : ∃ Y, W8.heap.size = Y := ⟨_, rfl⟩
    obtain ⟨V9, hV9⟩ : ∃ V, W8.alloc (.cells #[.int .i64 p1, .int .i64 q1, .int .i64 u1, .int .i64 v1] 25) = V := ⟨_, rfl⟩
    have HY : Hid (Pl V9 Y p1 q1 u1 v1) := by rw [← hV9, ← hY]; exact Pl.new W8 p1 q1 u1 v1 _
    replace HS : Hid (GP B X r s b o c p q u v w V9) := by rw [← hV9]; exact HS.out.next ((Below.refl _ W8).alloc (Nat.le_refl _) _)
    rw [hV9, hY]
    clear hV9 hY l8
    rcases Hn.out with ⟨hxn, rfl, rfl, rfl, rfl, rfl⟩ | ⟨hxn, rfl, rfl, rfl, rfl, rfl⟩
    · have hz : 0 ≤ n := by have := hd_bounds hxn; omega
      obtain ⟨a0, A0⟩ : ∃ x, Hid (n / 1048576 = x) := ⟨_, rfl⟩
      obtain ⟨a1, A1⟩ : ∃ x, Hid (n / 65536 % 16 = x) := ⟨_, rfl⟩
      obtain ⟨a2, A2⟩ : ∃ x, Hid (n / 64 % 1024 = x) := ⟨_, rfl⟩
      obtain ⟨a3, A3⟩ : ∃ x, Hid (n % 64 = x) := ⟨_, rfl⟩
      have CI : Hid (∀ w, Calls Try.prog 9 #[.agg #[.int .i64 r, .int .i64 s, .int .i64 b, .int .i64 o, .int .i64 c], .agg #[.int .i64 a0, .int .i64 a1, .int .i64 a2, .int .i64 a3]] w fun e w' => e = .returned (.tuple #[.int .i64 n, .int .i64 0]) ∧ Below w.heap.size w w') := fun w => by have := index_yes r s b o c _ _ _ _ hxn w; rw [ix_place, A0.out, A1.out, A2.out, A3.out] at this; exact this
      have CL : Hid (∀ w, Calls Try.prog 16 #[.int .i64 n] w fun e w' => e = .returned (.agg #[.int .i64 a0, .int .i64 a1, .int .i64 a2, .int .i64 a3]) ∧ Below w.heap.size w w') := fun w => by have := refPlace_any n hz hn1 w; rw [A0.out, A1.out, A2.out, A3.out] at this; exact this
      rw [A0.out, A1.out, A2.out, A3.out] at HY ⊢
      clear hxn Hn C2 A0 A1 A2 A3
      have g0 := HS.out.g.c0; have g1 := HS.out.g.c1; have g2 := HS.out.g.c2; have g3 := HS.out.g.c3; have g4 := HS.out.g.c4
      have y0 := HY.out.c0; have y1 := HY.out.c1; have y2 := HY.out.c2; have y3 := HY.out.c3
      go_wp2_with fail
      refine (CI.out _).mono ?_
      rintro e W10 ⟨rfl, bW⟩
      replace HS : Hid (GP B X r s b o c p q u v w W10) := HS.out.next bW
      replace HY : Hid (Pl W10 Y a0 a1 a2 a3) := HY.out.next bW
      clear bW g0 g1 g2 g3 g4 y0 y1 y2 y3
      go_wp2
      refine region_calm (by kernel_rfl) (by kernel_rfl) (fun W => Below W10.heap.size W10 W) (below_drew1 W10) ?_
      intro U hU fw hf hof
      have HN : Hid (∀ x W, Below (fw x).heap.size (fw x) W → ∃ y, W = fw y) := fun x W h => hof W ((hf x).trans (h.mono (hf x).size))
      have HF : Hid (∀ x, GP B X r s b o c p q u v w (fw x)) := fun x => HS.out.next (hf x)
      have y0 : ∀ x, (fw x).cell? ⟨Y, 0, none⟩ = some (.int .i64 a0) := fun x => (HY.out.next (hf x)).c0
      have y1 : ∀ x, (fw x).cell? ⟨Y, 1, none⟩ = some (.int .i64 a1) := fun x => (HY.out.next (hf x)).c1
      have y2 : ∀ x, (fw x).cell? ⟨Y, 2, none⟩ = some (.int .i64 a2) := fun x => (HY.out.next (hf x)).c2
      have y3 : ∀ x, (fw x).cell? ⟨Y, 3, none⟩ = some (.int .i64 a3) := fun x => (HY.out.next (hf x)).c3
      clear hf hof
      repeat (go_big_quiet_step ((go_at_call 16; exact calm_next HN.out (CL.out _))))
      refine wpQuiet_nil ?_
      rintro _ ⟨x9, rfl⟩
      go_wp2
      go_ret
      exact ⟨rfl, by rw [hB]; exact (HF.out x9).below⟩
    · by_cases hz : 0 ≤ n
      · have CL : Hid (∀ w, Calls Try.prog 16 #[.int .i64 n] w fun e w' => e = .returned (.agg #[.int .i64 (n / 1048576), .int .i64 (n / 65536 % 16), .int .i64 (n / 64 % 1024), .int .i64 (n % 64)]) ∧ Below w.heap.size w w') := fun w => refPlace_any n hz hn1 w
        have CH : Hid (∀ w, Calls Try.prog 13 #[.agg #[.int .i64 r, .int .i64 s, .int .i64 b, .int .i64 o, .int .i64 c], .agg #[.int .i64 (n / 1048576), .int .i64 (n / 65536 % 16), .int .i64 (n / 64 % 1024), .int .i64 (n % 64)]] w fun e w' => e = .returned (.bool false) ∧ Below w.heap.size w w') := fun w => by have := HP.out (n / 1048576) (n / 65536 % 16) (n / 64 % 1024) (n % 64) w; rw [show hd r s b o c (n / 1048576) (n / 65536 % 16) (n / 64 % 1024) (n % 64) = false from hxn] at this; exact this
        obtain ⟨a0, A0⟩ : ∃ x, Hid (n / 1048576 = x) := ⟨_, rfl⟩
        obtain ⟨a1, A1⟩ : ∃ x, Hid (n / 65536 % 16 = x) := ⟨_, rfl⟩
        obtain ⟨a2, A2⟩ : ∃ x, Hid (n / 64 % 1024 = x) := ⟨_, rfl⟩
        obtain ⟨a3, A3⟩ : ∃ x, Hid (n % 64 = x) := ⟨_, rfl⟩
        rw [A0.out, A1.out, A2.out, A3.out] at CL CH
        have dz : decide (n < 0) = false := decide_eq_false (by omega)
        clear hxn Hn C2 A0 A1 A2 A3 hz HP
        go_wp2
        refine region_calm (by kernel_rfl) (by kernel_rfl) (fun W => Below V9.heap.size V9 W) (below_drew1 V9) ?_
        intro U hU fw hf hof
        have HN : Hid (∀ x W, Below (fw x).heap.size (fw x) W → ∃ y, W = fw y) := fun x W h => hof W ((hf x).trans (h.mono (hf x).size))
        have HF : Hid (∀ x, GP B X r s b o c p q u v w (fw x)) := fun x => HS.out.next (hf x)
        have x0 : ∀ x, (fw x).cell? ⟨X, 0, none⟩ = some (.int .i64 r) := fun x => (HF.out x).x.c0
        have x1 : ∀ x, (fw x).cell? ⟨X, 1, none⟩ = some (.int .i64 s) := fun x => (HF.out x).x.c1
        have x2 : ∀ x, (fw x).cell? ⟨X, 2, none⟩ = some (.int .i64 b) := fun x => (HF.out x).x.c2
        have x3 : ∀ x, (fw x).cell? ⟨X, 3, none⟩ = some (.int .i64 o) := fun x => (HF.out x).x.c3
        have x4 : ∀ x, (fw x).cell? ⟨X, 4, none⟩ = some (.int .i64 c) := fun x => (HF.out x).x.c4
        have y0 : ∀ x, (fw x).cell? ⟨Y, 0, none⟩ = some (.int .i64 0) := fun x => (HY.out.next (hf x)).c0
        have y1 : ∀ x, (fw x).cell? ⟨Y, 1, none⟩ = some (.int .i64 0) := fun x => (HY.out.next (hf x)).c1
        have y2 : ∀ x, (fw x).cell? ⟨Y, 2, none⟩ = some (.int .i64 0) := fun x => (HY.out.next (hf x)).c2
        have y3 : ∀ x, (fw x).cell? ⟨Y, 3, none⟩ = some (.int .i64 0) := fun x => (HY.out.next (hf x)).c3
        clear hf hof
        repeat (go_big_quiet_step ((first | (go_at_call 16; exact calm_next HN.out (CL.out _)) | (go_at_call 13; exact calm_next HN.out (CH.out _)))))
        refine wpQuiet_nil ?_
        rintro _ ⟨x9, rfl⟩
        go_wp2
        go_ret
        exact ⟨rfl, by rw [hB]; exact (HF.out x9).below⟩
      · have dz : decide (n < 0) = true := decide_eq_true (by omega)
        clear hxn Hn C2 hz HP
        go_wp2
        refine region_calm (by kernel_rfl) (by kernel_rfl) (fun W => Below V9.heap.size V9 W) (below_drew1 V9) ?_
        intro U hU fw hf hof
        have HN : Hid (∀ x W, Below (fw x).heap.size (fw x) W → ∃ y, W = fw y) := fun x W h => hof W ((hf x).trans (h.mono (hf x).size))
        have HF : Hid (∀ x, GP B X r s b o c p q u v w (fw x)) := fun x => HS.out.next (hf x)
        have x0 : ∀ x, (fw x).cell? ⟨X, 0, none⟩ = some (.int .i64 r) := fun x => (HF.out x).x.c0
        have x1 : ∀ x, (fw x).cell? ⟨X, 1, none⟩ = some (.int .i64 s) := fun x => (HF.out x).x.c1
        have x2 : ∀ x, (fw x).cell? ⟨X, 2, none⟩ = some (.int .i64 b) := fun x => (HF.out x).x.c2
        have x3 : ∀ x, (fw x).cell? ⟨X, 3, none⟩ = some (.int .i64 o) := fun x => (HF.out x).x.c3
        have x4 : ∀ x, (fw x).cell? ⟨X, 4, none⟩ = some (.int .i64 c) := fun x => (HF.out x).x.c4
        have y0 : ∀ x, (fw x).cell? ⟨Y, 0, none⟩ = some (.int .i64 0) := fun x => (HY.out.next (hf x)).c0
        have y1 : ∀ x, (fw x).cell? ⟨Y, 1, none⟩ = some (.int .i64 0) := fun x => (HY.out.next (hf x)).c1
        have y2 : ∀ x, (fw x).cell? ⟨Y, 2, none⟩ = some (.int .i64 0) := fun x => (HY.out.next (hf x)).c2
        have y3 : ∀ x, (fw x).cell? ⟨Y, 3, none⟩ = some (.int .i64 0) := fun x => (HY.out.next (hf x)).c3
        clear hf hof
        repeat (go_big_quiet_step (fail))
        refine wpQuiet_nil ?_
        rintro _ ⟨x9, rfl⟩
        go_wp2
        go_ret
        exact ⟨rfl, by rw [hB]; exact (HF.out x9).below⟩

theorem geomPlaces_walk (a0 a1 : Nat → Int) (a2 : Int) (w0 : ∀ i, i < 5 → (Lit.int .i64 (a0 i)).wf = true) (_w1 : ∀ i, i < 4 → (Lit.int .i64 (a1 i)).wf = true) (w2 : (Lit.int .i64 a2).wf = true) (w : World) :
    Calls Try.prog 3 #[.agg (ints .i64 5 a0).toArray, .agg (ints .i64 4 a1).toArray, .int .i64 a2] w fun e w' => e = .returned (.bool true) ∧ Below w.heap.size w w' := by
  have hi : ∀ i, i < 5 → I64 (a0 i) := fun i hi => by have := bounds_i64 (w0 i hi); exact ⟨this.1, by omega⟩
  have h2 := bounds_i64 w2
  exact geomPlaces_core (a0 0) (a0 1) (a0 2) (a0 3) (a0 4) (a1 0) (a1 1) (a1 2) (a1 3) a2 (hi 0 (by omega)) (hi 2 (by omega)) (hi 3 (by omega)) (hi 4 (by omega)) h2.1 (by omega) w
end Go.Proofs.Ytjinbhggimbcbaa
