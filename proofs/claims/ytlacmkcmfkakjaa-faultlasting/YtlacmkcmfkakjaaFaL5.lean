/-
  FaultLasting.
-/
import Derived.Test.YtlacmkcmfkakjaaFaW8
import Derived.Test.YtlacmkcmfkakjaaFaW12
import Derived.Test.YtlacmkcmfkakjaaBoxes
import Derived.Test.YtlacmkcmfkakjaaRangeA
import Derived.Test.YtlacmkcmfkakjaaCalm
namespace Go.Proofs.Ytlacmkcmfkakjaa
open Go.RowKit Go.Shelf
attribute [local go_sem] Oper.semAt_some

/-- how many of the first last -/
def cntZ (Z : Nat → Nat → Int) : Nat → Nat
  | 0 => 0
  | s + 1 => cntZ Z s + if ls (Z s 0) = true then 1 else 0
theorem cntZ_le (Z : Nat → Nat → Int) : ∀ s, cntZ Z s ≤ s
  | 0 => Nat.le_refl _
  | s + 1 => by
    have := cntZ_le Z s
    unfold cntZ
    split <;> omega
theorem cntZ_yes {Z : Nat → Nat → Int} {s : Nat} (h : ls (Z s 0) = true) : cntZ Z (s + 1) = cntZ Z s + 1 := by
  show cntZ Z s + (if ls (Z s 0) = true then 1 else 0) = _
  rw [if_pos h]
theorem cntZ_no {Z : Nat → Nat → Int} {s : Nat} (h : ¬ ls (Z s 0) = true) : cntZ Z (s + 1) = cntZ Z s := by
  show cntZ Z s + (if ls (Z s 0) = true then 1 else 0) = _
  rw [if_neg h, Nat.add_zero]
theorem cntZ_mono (Z : Nat → Nat → Int) (s : Nat) : ∀ k, cntZ Z s ≤ cntZ Z (s + k)
  | 0 => Nat.le_refl _
  | k + 1 => Nat.le_trans (cntZ_mono Z s k) (by
    show cntZ Z (s + k) ≤ cntZ Z (s + k) + _
    omega)
/-- what the law holds beside: the slice, where to stop, its result -/
structure La4 (B : Nat) (va : Value) (stop : Int) (w W : World) : Prop where
  b0 : Box W B va
  b1 : Box W (B + 1) (.int .i64 stop)
  b2 : Box W (B + 1 + 1) (.bool false)
  n : Below B w W
section
variable {B : Nat} {va : Value} {stop : Int} {w W W' : World}
theorem La4.stay {C : Nat} (h : La4 B va stop w W) (k : Stay C W W') (hC : B ≤ C) : La4 B va stop w W' := ⟨h.b0.stay k, h.b1.stay k, h.b2.stay k, below_stay h.n k hC⟩
theorem La4.next (h : La4 B va stop w W) (k : Below W.heap.size W W') : La4 B va stop w W' := h.stay (stay_below11 k) (Nat.le_of_lt h.b0.lt)
theorem La4.set (h : La4 B va stop w W) {c : Nat} (hc : B + 1 + 1 < c) (u : Value) : La4 B va stop w (W.setCell ⟨c, 0, none⟩ u) :=
  ⟨h.b0.other (by omega) _, h.b1.other (by omega) _, h.b2.other (by omega) _, h.n.setCell (p := ⟨c, 0, none⟩) (by simp; omega) _⟩
end
/-- between two rounds of the range -/
structure LaI (B N : Nat) (va : Value) (stop : Int) (Z : Nat → Nat → Int) (w : World) (x : Nat) (W : World) : Prop where
  c : Box W N (.int .i64 (cntZ Z x : Int))
  l : ∃ L : Int, L < (x : Int) ∧ Box W (N + 1) (.int .i64 L)
  f : La4 B va stop w W
  s : stop < 1 ∨ (cntZ Z x : Int) < stop
/-- the range is left at x -/
def LaX (B N : Nat) (va : Value) (stop : Int) (Z : Nat → Nat → Int) (w : World) (c : Code) (x : Nat) (W : World) : Prop :=
  c = .exit 0 ∧ 1 ≤ stop ∧ (cntZ Z (x + 1) : Int) = stop ∧ Box W N (.int .i64 stop) ∧ La4 B va stop w W
/-- behind the range -/
structure La5 (B N D : Nat) (va : Value) (stop v : Int) (w W : World) : Prop where
  f : La4 B va stop w W
  c : Box W N (.int .i64 v)
  d : W.heap[D]? = some (.deferred (some []))
theorem La5.next {B N D : Nat} {va : Value} {stop v : Int} {w W W' : World} (h : La5 B N D va stop v w W) (k : Below W.heap.size W W') : La5 B N D va stop v w W' :=
  ⟨h.f.next k, h.c.below k h.c.lt, (k.block D (Array.getElem?_eq_some_iff.1 h.d).1).trans h.d⟩
theorem La5.drewN {B N D : Nat} {va : Value} {stop v : Int} {w W : World} (h : La5 B N D va stop v w W) (j : Nat) : La5 B N D va stop v w (W.drewN j) := h.next (below_drewN (Below.refl _ W) j)
set_option maxRecDepth 100000 in
set_option maxHeartbeats 8000000 in
theorem faultLasting_core (a : Option Addr) (len cap : Nat) (Z : Nat → Nat → Int) (stop : Int) (h60 : len ≤ 60) (w : World) (hs : Fs w a len cap Z) :
    CallsIn Fence.wide 10 Try.prog 6 #[.slice a len cap, .int .i64 stop] w fun e w' => e = .returned (.bool true) ∧ Below w.heap.size w w' := by
  have A0 : Hid (∀ w : World, Calls Try.prog 8 #[] w fun e w' => e = .returned (.bool true) ∧ Below w.heap.size w w') := anchor11_any
  have HS : Hid (Fs w a len cap Z) := hs
  have HR : Hid (0 < len → ∃ b o, a = some ⟨b, o, none⟩ ∧ ∀ W, Below w.heap.size w W → ∀ s, s < len → W.rangeAt b (o + s * 8) [.int .i64 (Z s 0), .int .i64 (Z s 1), .int .i64 (Z s 2), .int .i64 (Z s 3), .int .i64 (Z s 4), .int .i64 (Z s 5), .int .i64 (Z s 6), .int .i64 (Z s 7)]) := fun h0 => by
    obtain ⟨b, o, h1, h2, h3⟩ := hs.at_ h0
    refine ⟨b, o, h1, fun W hW s hs => fs_range (fun i hi j hj => ?_) s hs⟩
    exact (hW.cell (p := ⟨b, o + (i * 8 + j), none⟩) h2).trans (h3 i hi j hj)
  have hcap := hs.le
  clear hs
  refine callsIn_of_wp_marks Try.func6 rfl trivial ?_ rfl
  simp only [Try.ntmps6, List.size_toArray, List.length_cons, List.length_nil, Nat.reduceAdd, Nat.reduceSub, Array.replicate_succ, Array.replicate_zero, List.push_toArray, List.append_toArray, List.nil_append, List.cons_append]
  refine wpIn_wide.2 ?_
  go_wp2_with fail
  obtain ⟨V0, hV0⟩ : ∃ V0, ((w.alloc (.cells #[.slice a len cap] 39)).alloc (.cells #[.int .i64 stop] 3)).alloc (.cells #[.bool false] 4) = V0 := ⟨_, rfl⟩
  obtain ⟨s0, x0, x1, x2, hS0⟩ := box3 w _ _ _ _ _ _ V0 hV0
  rw [hV0]
  clear hV0
  refine (A0.out _).mono ?_
  rintro e V1 ⟨rfl, hB1⟩
  obtain ⟨B, hB⟩ : ∃ B, w.heap.size = B := ⟨_, rfl⟩
  have H4 : Hid (La4 B (.slice a len cap) stop w V1) := by
    rw [← hB]
    exact ⟨x0.below hB1 x0.lt, x1.below hB1 x1.lt, x2.below hB1 x2.lt, (below_stay (Below.refl _ w) hS0 (Nat.le_refl _)).trans (hB1.mono (by omega))⟩
  have s1 : B + 3 ≤ V1.heap.size := by have := hB1.size; omega
  rw [hB] at HR ⊢
  clear x0 x1 x2 hS0 hB1 s0 A0
  have c0 := H4.out.b0.1
  have d60 : decide (60 < (len : Int)) = false := decide_eq_false (by omega)
  go_upto_region 7 with (fail)
  obtain ⟨N, hN⟩ : ∃ N, V1.heap.size = N := ⟨_, rfl⟩
  obtain ⟨V2, hV2⟩ : ∃ V2, (V1.alloc (.cells #[.int .i64 0] 3)).alloc (.cells #[.int .i64 (-1)] 3) = V2 := ⟨_, rfl⟩
  obtain ⟨s2, y0, y1, hS2⟩ := box2 V1 _ _ _ _ V2 hV2
  rw [hV2]
  clear hV2 c0
  have H5 : Hid (La4 B (.slice a len cap) stop w V2 ∧ Box V2 N (.int .i64 0) ∧ Box V2 (N + 1) (.int .i64 (-1)) ∧ V2.heap.size = N + 2) := by
    rw [← hN]; exact ⟨H4.out.stay hS2 (by omega), y0, y1, s2⟩
  rw [hN] at s1 ⊢
  clear y0 y1 hS2 s2 H4 hN
  have c0 := H5.out.1.b0.1
  go_wp2_with fail
  refine (lasting_any a len cap Z (by omega) V2 (HS.out.below (by rw [hB]; exact H5.out.1.n))).mono ?_
  rintro e V3 ⟨T, a', c', rfl, HL⟩
  have H6 : Hid (La4 B (.slice a len cap) stop w V3 ∧ Box V3 N (.int .i64 0) ∧ Box V3 (N + 1) (.int .i64 (-1)) ∧ N + 2 ≤ V3.heap.size ∧ N + 2 ≤ T ∧ T < V3.heap.size ∧ Lg V2 V3 T a' len c' Z) := by
    have hz := H5.out.2.2.2
    exact ⟨H5.out.1.next HL.n, H5.out.2.1.below HL.n H5.out.2.1.lt, H5.out.2.2.1.below HL.n H5.out.2.2.1.lt, by have := HL.n.size; omega, by have := HL.t; omega, HL.b.lt, HL⟩
  have hgN : Hid (0 < len → ∃ g, a' = some ⟨g, 0, none⟩ ∧ N + 2 ≤ g ∧ g < V3.heap.size) := fun h => by
    obtain ⟨g, e, h1⟩ := HL.g h
    obtain ⟨g2, o2, e2, h2, _⟩ := HL.f.at_ h
    have hz := H5.out.2.2.2
    refine ⟨g, e, by omega, ?_⟩
    rw [e] at e2; cases e2; exact h2
  have hsz3 := H6.out.2.2.2.1
  clear HL H5 c0 HS
  go_wp2_with fail
  refine (wpIn_wide (n := 10)).1 (rangeA rfl (enters_of Try.func38 (by kernel_rfl) rfl) (lasting_seq V3 V2 T a' len c' Z H6.out.2.2.2.2.2.2) (fun _ => rfl)
    (fun b => b = N ∨ b = N + 1)
    (by
      intro b hb
      refine ⟨by omega, ?_⟩
      rintro (e | ⟨hl, o, e⟩)
      · have := H6.out.2.2.2.2.1; omega
      · obtain ⟨g, e2, h1, _⟩ := hgN.out hl
        rw [e] at e2; cases e2; omega)
    (by
      rintro b (rfl | ⟨hl, o, e⟩)
      · exact H6.out.2.2.2.2.2.1
      · obtain ⟨g, e2, _, h1⟩ := hgN.out hl
        rw [e] at e2; cases e2; exact h1)
    (LaI B N (.slice a len cap) stop Z w) (LaX B N (.slice a len cap) stop Z w)
    (by rintro x A A' ⟨h1, ⟨L, hL, h2⟩, h3, h4⟩ hs; exact ⟨h1.stay hs, ⟨L, hL, h2.stay hs⟩, h3.stay hs (by omega), h4⟩)
    (by rintro c x A A' ⟨h1, h2, h3, h4, h5⟩ hs; exact ⟨h1, h2, h3, h4.stay hs, h5.stay hs (by omega)⟩)
    ⟨H6.out.2.1, ⟨-1, by omega, H6.out.2.2.1⟩, H6.out.1, by show stop < 1 ∨ ((0 : Nat) : Int) < stop; omega⟩
    (by rintro x W hx hp ⟨h1, ⟨L, hL, h2⟩, h3, h4⟩; rw [← cntZ_no hp] at h1 h4; exact ⟨h1, ⟨L, by omega, h2⟩, h3, h4⟩) ?round ?done ?stop)
  case round =>
    rintro l x W hx hp ⟨h1, ⟨L, hL, h2⟩, h3, h4⟩
    obtain ⟨b, o, rfl, HQ⟩ := HR.out (by omega)
    have hcx := cntZ_le Z x
    obtain ⟨k, hk, Hk⟩ : ∃ k, k ≤ x ∧ Hid (cntZ Z x = k) := ⟨_, hcx, rfl⟩
    have HkS : Hid (cntZ Z (x + 1) = k + 1) := by show _ = _; rw [cntZ_yes hp, Hk.out]
    rw [Hk.out] at h1 h4
    have hpz := of_decide_eq_true hp
    obtain ⟨z0, hz0⟩ : ∃ y, Z x 0 = y := ⟨_, rfl⟩
    obtain ⟨z1, hz1⟩ : ∃ y, Z x 1 = y := ⟨_, rfl⟩
    obtain ⟨z2, hz2⟩ : ∃ y, Z x 2 = y := ⟨_, rfl⟩
    obtain ⟨z3, hz3⟩ : ∃ y, Z x 3 = y := ⟨_, rfl⟩
    obtain ⟨z4, hz4⟩ : ∃ y, Z x 4 = y := ⟨_, rfl⟩
    obtain ⟨z5, hz5⟩ : ∃ y, Z x 5 = y := ⟨_, rfl⟩
    obtain ⟨z6, hz6⟩ : ∃ y, Z x 6 = y := ⟨_, rfl⟩
    obtain ⟨z7, hz7⟩ : ∃ y, Z x 7 = y := ⟨_, rfl⟩
    rw [hz0, hz1, hz2, hz3, hz4, hz5, hz6, hz7]
    rw [hz0] at hpz
    have HP : Hid (La4 B (.slice (some ⟨b, o, none⟩) len cap) stop w W ∧ Box W N (.int .i64 (k : Int)) ∧ Box W (N + 1) (.int .i64 L)) := ⟨h3, h1, h2⟩
    have HQ2 : Hid (∀ W', Below B w W' → W'.rangeAt b (o + x * 8) [.int .i64 z0, .int .i64 z1, .int .i64 z2, .int .i64 z3, .int .i64 z4, .int .i64 z5, .int .i64 z6, .int .i64 z7]) := fun W' h => by
      have := HQ W' h x hx
      rwa [hz0, hz1, hz2, hz3, hz4, hz5, hz6, hz7] at this
    clear h1 h2 h3 HQ hz0 hz1 hz2 hz3 hz4 hz5 hz6 hz7 HR hcx
    gi_wp2
    refine ⟨Keep.below ((Below.refl _ W).alloc (Nat.le_refl _) _) (Nat.le_refl _), fun W3 hs2 hz2 => ?_⟩
    obtain ⟨K, hK⟩ : ∃ K, W.heap.size = K := ⟨_, rfl⟩
    rw [hK]
    have bW : Below W.heap.size W (W.alloc (.cells #[.int .i64 z0, .int .i64 z1, .int .i64 z2, .int .i64 z3, .int .i64 z4, .int .i64 z5, .int .i64 z6, .int .i64 z7] 25)) := (Below.refl _ W).alloc (Nat.le_refl _) _
    have H3 : Hid (La4 B (.slice (some ⟨b, o, none⟩) len cap) stop w W3 ∧ Box W3 N (.int .i64 (k : Int)) ∧ Box W3 (N + 1) (.int .i64 L) ∧ Ft W3 K z0 z1 z2 z3 z4 z5 z6 z7 ∧ W3.rangeAt b (o + x * 8) [.int .i64 z0, .int .i64 z1, .int .i64 z2, .int .i64 z3, .int .i64 z4, .int .i64 z5, .int .i64 z6, .int .i64 z7]) := by
      have g3 := (HP.out.1.next bW).stay hs2 (by omega)
      exact ⟨g3, (HP.out.2.1.below bW HP.out.2.1.lt).stay hs2, (HP.out.2.2.below bW HP.out.2.2.lt).stay hs2, by rw [← hK]; exact Bk.stay (Ft.new W _ _ _ _ _ _ _ _ _) hs2, HQ2.out W3 g3.n⟩
    clear hs2 hz2 bW HP HQ2 hK
    have fin : Hid (∀ nq, Keep (fun b => b = N ∨ b = N + 1) W3 (((W3.drewN nq).setCell ⟨N + 1, 0, none⟩ (.int .i64 (x : Int))).setCell ⟨N, 0, none⟩ (.int .i64 ((k : Int) + 1))) ∧
        Box (((W3.drewN nq).setCell ⟨N + 1, 0, none⟩ (.int .i64 (x : Int))).setCell ⟨N, 0, none⟩ (.int .i64 ((k : Int) + 1))) N (.int .i64 ((k : Int) + 1)) ∧
        Box (((W3.drewN nq).setCell ⟨N + 1, 0, none⟩ (.int .i64 (x : Int))).setCell ⟨N, 0, none⟩ (.int .i64 ((k : Int) + 1))) (N + 1) (.int .i64 (x : Int)) ∧
        La4 B (.slice (some ⟨b, o, none⟩) len cap) stop w (((W3.drewN nq).setCell ⟨N + 1, 0, none⟩ (.int .i64 (x : Int))).setCell ⟨N, 0, none⟩ (.int .i64 ((k : Int) + 1)))) := fun nq =>
      ⟨(((Keep.refl _ _).drewN nq).set (.inr rfl) _).set (.inl rfl) _, ((H3.out.2.1.drewN nq).other (by omega) _).set _, ((H3.out.2.2.1.drewN nq).set _).other (by omega) _, ((H3.out.1.next (below_drewN (Below.refl _ W3) nq)).set (by omega) _).set (by omega) _⟩
    have q0 := H3.out.2.1.1; have f0 := H3.out.2.1.2; have q1 := H3.out.2.2.1.1; have f1 := H3.out.2.2.1.2; have q2 := H3.out.1.b0.1; have q3 := H3.out.1.b1.1; have q4 := H3.out.2.2.2.1.c0
    have dL : decide ((x : Int) ≤ L) = false := decide_eq_false (by omega)
    have dN : decide ((len : Int) ≤ (x : Int)) = false := decide_eq_false (by omega)
    have dN2 : ¬ len ≤ x := by omega
    have dN3 : decide (len ≤ x) = false := decide_eq_false (by omega)
    have dz : decide (z0 < 2) = false := decide_eq_false (by omega)
    have dz2 : decide (5 < z0) = false := decide_eq_false (by omega)
    have ns : N + 1 ≠ N := by omega
    have hne : ∀ w, (binOp .neq 25 (.agg #[.int .i64 z0, .int .i64 z1, .int .i64 z2, .int .i64 z3, .int .i64 z4, .int .i64 z5, .int .i64 z6, .int .i64 z7]) (.agg #[.int .i64 z0, .int .i64 z1, .int .i64 z2, .int .i64 z3, .int .i64 z4, .int .i64 z5, .int .i64 z6, .int .i64 z7])).run Try.prog w = .ok (.bool false) w := fun w => by rw [eqF_neq]; simp
    have gd := eqF_gd
    have hxl : (x : Int) < (len : Int) := by omega
    clear hp hpz
    by_cases hst : (k : Int) + 1 = stop
    · have HS : Hid ((k : Int) + 1 = stop) := hst
      have e3 : ((k : Int) + 1 == stop) = true := by rw [beq_iff_eq]; exact hst
      clear hst
      gi_wp2
      refine quiet_round (by kernel_rfl) (by kernel_rfl) (by kernel_rfl) ?_
      go_big_quiet_step (fail)
      go_big_quiet_step (fail)
      go_big_quiet_step (fail)
      go_big_quiet_step (fail)
      go_big_quiet_step (fail)
      go_big_quiet_step (fail)
      go_big_quiet_step (fail)
      go_big_quiet_step (fail)
      go_big_quiet_step (fail)
      go_big_quiet_step (fail)
      go_big_quiet_step (fail)
      go_big_quiet_step (fail)
      go_big_quiet_step (fail)
      refine quiet_load (by rfl) 25 _ rfl b (o + x * 8) rfl [.int .i64 z0, .int .i64 z1, .int .i64 z2, .int .i64 z3, .int .i64 z4, .int .i64 z5, .int .i64 z6, .int .i64 z7] _ (by rintro _ ⟨y, rfl⟩; exact H3.out.2.2.2.2) Try.underlying25 rfl infoF ?_
      simp only [Act.put, List.setIfInBounds_toArray, List.set_cons_zero, List.set_cons_succ]
      refine quiet_load (by rfl) 25 _ rfl K 0 rfl [.int .i64 z0, .int .i64 z1, .int .i64 z2, .int .i64 z3, .int .i64 z4, .int .i64 z5, .int .i64 z6, .int .i64 z7] _ (by rintro _ ⟨y, rfl⟩; exact H3.out.2.2.2.1.range) Try.underlying25 rfl infoF ?_
      simp only [Act.put, List.setIfInBounds_toArray, List.set_cons_zero, List.set_cons_succ]
      refine quiet_one (by rfl) _ (exec_neqA 25 _ _ _ rfl _ _ _ rfl rfl gd hne) ?_
      simp only [Act.put, List.setIfInBounds_toArray, List.set_cons_zero, List.set_cons_succ]
      go_big_quiet_step (fail)
      go_big_quiet_step (fail)
      go_big_quiet_step (fail)
      go_big_quiet_step (fail)
      go_big_quiet_step (fail)
      go_big_quiet_step (fail)
      go_big_quiet_step (fail)
      go_big_quiet_step (fail)
      go_big_quiet_step (fail)
      go_big_quiet_step (fail)
      go_big_quiet_step (fail)
      refine wpQuiet_nil ?_
      intro _ hw'
      obtain ⟨nq, hw''⟩ := hw'
      subst hw''
      gi_wp2
      obtain ⟨f1, f2, f3, f4⟩ := fin.out nq
      refine ⟨f1, rfl, by have := HS.out; omega, ?_, ?_, f4⟩
      · have g1 := HkS.out; have g2 := HS.out; omega
      · rw [← HS.out]; exact f2
    · have HS : Hid (¬ ((k : Int) + 1 = stop)) := hst
      have e3 : ((k : Int) + 1 == stop) = false := by rw [beq_eq_false_iff_ne]; exact hst
      clear hst
      gi_wp2
      refine quiet_round (by kernel_rfl) (by kernel_rfl) (by kernel_rfl) ?_
      go_big_quiet_step (fail)
      go_big_quiet_step (fail)
      go_big_quiet_step (fail)
      go_big_quiet_step (fail)
      go_big_quiet_step (fail)
      go_big_quiet_step (fail)
      go_big_quiet_step (fail)
      go_big_quiet_step (fail)
      go_big_quiet_step (fail)
      go_big_quiet_step (fail)
      go_big_quiet_step (fail)
      go_big_quiet_step (fail)
      go_big_quiet_step (fail)
      refine quiet_load (by rfl) 25 _ rfl b (o + x * 8) rfl [.int .i64 z0, .int .i64 z1, .int .i64 z2, .int .i64 z3, .int .i64 z4, .int .i64 z5, .int .i64 z6, .int .i64 z7] _ (by rintro _ ⟨y, rfl⟩; exact H3.out.2.2.2.2) Try.underlying25 rfl infoF ?_
      simp only [Act.put, List.setIfInBounds_toArray, List.set_cons_zero, List.set_cons_succ]
      refine quiet_load (by rfl) 25 _ rfl K 0 rfl [.int .i64 z0, .int .i64 z1, .int .i64 z2, .int .i64 z3, .int .i64 z4, .int .i64 z5, .int .i64 z6, .int .i64 z7] _ (by rintro _ ⟨y, rfl⟩; exact H3.out.2.2.2.1.range) Try.underlying25 rfl infoF ?_
      simp only [Act.put, List.setIfInBounds_toArray, List.set_cons_zero, List.set_cons_succ]
      refine quiet_one (by rfl) _ (exec_neqA 25 _ _ _ rfl _ _ _ rfl rfl gd hne) ?_
      simp only [Act.put, List.setIfInBounds_toArray, List.set_cons_zero, List.set_cons_succ]
      go_big_quiet_step (fail)
      go_big_quiet_step (fail)
      go_big_quiet_step (fail)
      go_big_quiet_step (fail)
      go_big_quiet_step (fail)
      go_big_quiet_step (fail)
      go_big_quiet_step (fail)
      go_big_quiet_step (fail)
      go_big_quiet_step (fail)
      go_big_quiet_step (fail)
      go_big_quiet_step (fail)
      refine wpQuiet_nil ?_
      intro _ hw'
      obtain ⟨nq, hw''⟩ := hw'
      subst hw''
      gi_wp2
      obtain ⟨f1, f2, f3, f4⟩ := fin.out nq
      refine ⟨f1, ?_, ⟨(x : Int), by omega, f3⟩, f4, ?_⟩
      · rw [HkS.out]; exact f2
      · have g1 := HkS.out; have g2 := HS.out; omega
  case done =>
    rintro D W hD ⟨h1, ⟨L, hL, h2⟩, h3, h4⟩ hKd
    have hcl := cntZ_le Z len
    obtain ⟨v, hv⟩ : ∃ v : Int, (cntZ Z len : Int) = v := ⟨_, rfl⟩
    have HF : Hid (La5 B N D (.slice a len cap) stop v w W) := ⟨h3, by rw [← hv]; exact h1, hKd⟩
    have HV : Hid (∀ u : Int, (u = if 1 ≤ stop then min (cntZ Z len : Int) stop else (cntZ Z len : Int)) → u = v) := fun u hu => by
      rw [hu, ← hv]; split <;> omega
    clear h1 h2 h3 h4 hv hL hKd
    have c0 := HF.out.f.b0.1
    go_upto_region 16 with (fail)
    clear c0
    go_loopw [6, 56] (fun t i wr => ∃ s : Nat, s ≤ len ∧ i = .int .i64 (s : Int) ∧ t = .int .i64 (cntZ Z s : Int) ∧ Hid (La5 B N D (.slice a len cap) stop v w wr)) (fun _ i _ => len - (intOf i).toNat)
    case atStart => exact ⟨0, by omega, rfl, rfl, HF⟩
    case round =>
      clear HF
      obtain ⟨s, hs, rfl, rfl, HF⟩ := hrel
      by_cases hlt : s < len
      · obtain ⟨b, o, rfl, HQ⟩ := HR.out (by omega)
        have hr := HQ wr HF.out.f.n s hlt
        have hcs := cntZ_le Z s
        obtain ⟨k, hk, Hk⟩ : ∃ k, k ≤ s ∧ Hid (cntZ Z s = k) := ⟨_, hcs, rfl⟩
        have HN : Hid (cntZ Z (s + 1) = k + if ls (Z s 0) = true then 1 else 0) := by show _ = _; rw [← Hk.out]; rfl
        rw [Hk.out]
        obtain ⟨z0, hz0⟩ : ∃ y, Z s 0 = y := ⟨_, rfl⟩
        obtain ⟨z1, hz1⟩ : ∃ y, Z s 1 = y := ⟨_, rfl⟩
        obtain ⟨z2, hz2⟩ : ∃ y, Z s 2 = y := ⟨_, rfl⟩
        obtain ⟨z3, hz3⟩ : ∃ y, Z s 3 = y := ⟨_, rfl⟩
        obtain ⟨z4, hz4⟩ : ∃ y, Z s 4 = y := ⟨_, rfl⟩
        obtain ⟨z5, hz5⟩ : ∃ y, Z s 5 = y := ⟨_, rfl⟩
        obtain ⟨z6, hz6⟩ : ∃ y, Z s 6 = y := ⟨_, rfl⟩
        obtain ⟨z7, hz7⟩ : ∃ y, Z s 7 = y := ⟨_, rfl⟩
        rw [hz0, hz1, hz2, hz3, hz4, hz5, hz6, hz7] at hr
        rw [hz0] at HN
        clear HQ HR hcs hz0 hz1 hz2 hz3 hz4 hz5 hz6 hz7 HV
        go_upto_region 18 with (first | refine wpList_load_mid rfl 25 _ rfl b (o + s * 8) rfl [.int .i64 z0, .int .i64 z1, .int .i64 z2, .int .i64 z3, .int .i64 z4, .int .i64 z5, .int .i64 z6, .int .i64 z7] _ hr Try.underlying25 rfl infoF ?_)
        obtain ⟨K, hK⟩ : ∃ K, wr.heap.size = K := ⟨_, rfl⟩
        obtain ⟨W1, hW1⟩ : ∃ W1, wr.alloc (.cells #[.int .i64 z0, .int .i64 z1, .int .i64 z2, .int .i64 z3, .int .i64 z4, .int .i64 z5, .int .i64 z6, .int .i64 z7] 25) = W1 := ⟨_, rfl⟩
        have HK1 : Hid (Ft W1 K z0 z1 z2 z3 z4 z5 z6 z7) := by rw [← hW1, ← hK]; exact Ft.new wr _ _ _ _ _ _ _ _ _
        replace HF : Hid (La5 B N D (.slice (some ⟨b, o, none⟩) len cap) stop v w W1) := by rw [← hW1]; exact HF.out.next ((Below.refl _ wr).alloc (Nat.le_refl _) _)
        rw [hW1, hK]
        clear hr hW1 hK
        have e0 := HK1.out.c0
        by_cases h2 : 2 ≤ z0
        · have d2 : decide (2 ≤ z0) = true := decide_eq_true h2
          by_cases h5 : z0 ≤ 5
          · have d5 : decide (z0 ≤ 5) = true := decide_eq_true h5
            have HN2 : Hid (cntZ Z (s + 1) = k + 1) := by show _ = _; rw [HN.out, if_pos (show ls z0 = true from decide_eq_true ⟨h2, h5⟩)]
            clear HN h2 h5
            go_wp2
            go_roundw
            case rel => exact ⟨s + 1, by omega, by go_num, by rw [HN2.out]; go_num, HF⟩
            case measure => simp [intOf]; omega
          · have d5 : decide (z0 ≤ 5) = false := decide_eq_false h5
            have HN2 : Hid (cntZ Z (s + 1) = k) := by show _ = _; rw [HN.out, if_neg (fun e => h5 (of_decide_eq_true e).2), Nat.add_zero]
            clear HN h2 h5
            go_wp2
            go_roundw
            case rel => exact ⟨s + 1, by omega, by go_num, by rw [HN2.out], HF⟩
            case measure => simp [intOf]; omega
        · have d2 : decide (2 ≤ z0) = false := decide_eq_false h2
          have HN2 : Hid (cntZ Z (s + 1) = k) := by show _ = _; rw [HN.out, if_neg (fun e => h2 (of_decide_eq_true e).1), Nat.add_zero]
          clear HN h2
          go_wp2
          go_roundw
          case rel => exact ⟨s + 1, by omega, by go_num, by rw [HN2.out], HF⟩
          case measure => simp [intOf]; omega
      · obtain rfl : s = len := by omega
        clear HR
        obtain ⟨u, hu⟩ : ∃ u, cntZ Z s = u := ⟨_, rfl⟩
        rw [hu] at HV hcl ⊢
        clear hu
        have c0 := HF.out.f.b0.1; have c1 := HF.out.f.b1.1; have c2 := HF.out.f.b2.1; have f2 := HF.out.f.b2.2; have n0 := HF.out.c.1
        have nn : N ≠ B + 1 + 1 := by omega
        obtain ⟨k1, k2, k3⟩ := leaves (u := .bool true) HF.out.f.b2 HF.out.d (by omega) (by omega) (by omega) HF.out.f.n
        by_cases hst : 1 ≤ stop
        · have ds : decide (1 ≤ stop) = true := decide_eq_true hst
          have hm : min (u : Int) stop = v := HV.out _ (by rw [if_pos hst])
          have hmin : ∀ (ts : Array TypeId) (t : TypeId) (w : World), (Builtin.min_ ts t #[.int .i64 (u : Int), .int .i64 stop]).run Try.prog w = .ok (.int .i64 v) w := fun ts t w => min_run _ _ _ hm ts t w
          clear hm hst
          go_wp2
          refine ⟨by simp, .inl ⟨_, _, rfl, run_takeDeferred k1, ?_⟩⟩
          refine ⟨.bool true, ?_, rfl, by first | exact k3 | (rw [hB]; exact k3)⟩
          simp [results, Try.f6, go_sem, k2]
        · have ds : decide (1 ≤ stop) = false := decide_eq_false hst
          obtain rfl : (u : Int) = v := HV.out _ (by rw [if_neg hst])
          clear hst
          go_wp2
          refine ⟨by simp, .inl ⟨_, _, rfl, run_takeDeferred k1, ?_⟩⟩
          refine ⟨.bool true, ?_, rfl, by first | exact k3 | (rw [hB]; exact k3)⟩
          simp [results, Try.f6, go_sem, k2]
  case stop =>
    rintro D c x W hD hx hp ⟨rfl, hst, hcx, h1, h3⟩ hKd
    have hcl := cntZ_le Z len
    have hmo := cntZ_mono Z (x + 1) (len - (x + 1))
    rw [show x + 1 + (len - (x + 1)) = len by omega] at hmo
    obtain ⟨v, hv⟩ : ∃ v : Int, stop = v := ⟨_, rfl⟩
    have HF : Hid (La5 B N D (.slice a len cap) stop v w W) := ⟨h3, by rw [← hv]; exact h1, hKd⟩
    have HV : Hid (∀ u : Int, (u = if 1 ≤ stop then min (cntZ Z len : Int) stop else (cntZ Z len : Int)) → u = v) := fun u hu => by
      rw [hu, if_pos hst, ← hv]; omega
    clear h1 h3 hv hKd hmo hst hcx hp hx
    refine wpIn_wide.2 ?_
    have c0 := HF.out.f.b0.1
    go_upto_region 16 with (fail)
    clear c0
    go_loopw [6, 56] (fun t i wr => ∃ s : Nat, s ≤ len ∧ i = .int .i64 (s : Int) ∧ t = .int .i64 (cntZ Z s : Int) ∧ Hid (La5 B N D (.slice a len cap) stop v w wr)) (fun _ i _ => len - (intOf i).toNat)
    case atStart => exact ⟨0, by omega, rfl, rfl, HF⟩
    case round =>
      clear HF
      obtain ⟨s, hs, rfl, rfl, HF⟩ := hrel
      by_cases hlt : s < len
      · obtain ⟨b, o, rfl, HQ⟩ := HR.out (by omega)
        have hr := HQ wr HF.out.f.n s hlt
        have hcs := cntZ_le Z s
        obtain ⟨k, hk, Hk⟩ : ∃ k, k ≤ s ∧ Hid (cntZ Z s = k) := ⟨_, hcs, rfl⟩
        have HN : Hid (cntZ Z (s + 1) = k + if ls (Z s 0) = true then 1 else 0) := by show _ = _; rw [← Hk.out]; rfl
        rw [Hk.out]
        obtain ⟨z0, hz0⟩ : ∃ y, Z s 0 = y := ⟨_, rfl⟩
        obtain ⟨z1, hz1⟩ : ∃ y, Z s 1 = y := ⟨_, rfl⟩
        obtain ⟨z2, hz2⟩ : ∃ y, Z s 2 = y := ⟨_, rfl⟩
        obtain ⟨z3, hz3⟩ : ∃ y, Z s 3 = y := ⟨_, rfl⟩
        obtain ⟨z4, hz4⟩ : ∃ y, Z s 4 = y := ⟨_, rfl⟩
        obtain ⟨z5, hz5⟩ : ∃ y, Z s 5 = y := ⟨_, rfl⟩
        obtain ⟨z6, hz6⟩ : ∃ y, Z s 6 = y := ⟨_, rfl⟩
        obtain ⟨z7, hz7⟩ : ∃ y, Z s 7 = y := ⟨_, rfl⟩
        rw [hz0, hz1, hz2, hz3, hz4, hz5, hz6, hz7] at hr
        rw [hz0] at HN
        clear HQ HR hcs hz0 hz1 hz2 hz3 hz4 hz5 hz6 hz7 HV
        go_upto_region 18 with (first | refine wpList_load_mid rfl 25 _ rfl b (o + s * 8) rfl [.int .i64 z0, .int .i64 z1, .int .i64 z2, .int .i64 z3, .int .i64 z4, .int .i64 z5, .int .i64 z6, .int .i64 z7] _ hr Try.underlying25 rfl infoF ?_)
        obtain ⟨K, hK⟩ : ∃ K, wr.heap.size = K := ⟨_, rfl⟩
        obtain ⟨W1, hW1⟩ : ∃ W1, wr.alloc (.cells #[.int .i64 z0, .int .i64 z1, .int .i64 z2, .int .i64 z3, .int .i64 z4, .int .i64 z5, .int .i64 z6, .int .i64 z7] 25) = W1 := ⟨_, rfl⟩
        have HK1 : Hid (Ft W1 K z0 z1 z2 z3 z4 z5 z6 z7) := by rw [← hW1, ← hK]; exact Ft.new wr _ _ _ _ _ _ _ _ _
        replace HF : Hid (La5 B N D (.slice (some ⟨b, o, none⟩) len cap) stop v w W1) := by rw [← hW1]; exact HF.out.next ((Below.refl _ wr).alloc (Nat.le_refl _) _)
        rw [hW1, hK]
        clear hr hW1 hK
        have e0 := HK1.out.c0
        by_cases h2 : 2 ≤ z0
        · have d2 : decide (2 ≤ z0) = true := decide_eq_true h2
          by_cases h5 : z0 ≤ 5
          · have d5 : decide (z0 ≤ 5) = true := decide_eq_true h5
            have HN2 : Hid (cntZ Z (s + 1) = k + 1) := by show _ = _; rw [HN.out, if_pos (show ls z0 = true from decide_eq_true ⟨h2, h5⟩)]
            clear HN h2 h5
            go_wp2
            go_roundw
            case rel => exact ⟨s + 1, by omega, by go_num, by rw [HN2.out]; go_num, HF⟩
            case measure => simp [intOf]; omega
          · have d5 : decide (z0 ≤ 5) = false := decide_eq_false h5
            have HN2 : Hid (cntZ Z (s + 1) = k) := by show _ = _; rw [HN.out, if_neg (fun e => h5 (of_decide_eq_true e).2), Nat.add_zero]
            clear HN h2 h5
            go_wp2
            go_roundw
            case rel => exact ⟨s + 1, by omega, by go_num, by rw [HN2.out], HF⟩
            case measure => simp [intOf]; omega
        · have d2 : decide (2 ≤ z0) = false := decide_eq_false h2
          have HN2 : Hid (cntZ Z (s + 1) = k) := by show _ = _; rw [HN.out, if_neg (fun e => h2 (of_decide_eq_true e).1), Nat.add_zero]
          clear HN h2
          go_wp2
          go_roundw
          case rel => exact ⟨s + 1, by omega, by go_num, by rw [HN2.out], HF⟩
          case measure => simp [intOf]; omega
      · obtain rfl : s = len := by omega
        clear HR
        obtain ⟨u, hu⟩ : ∃ u, cntZ Z s = u := ⟨_, rfl⟩
        rw [hu] at HV hcl ⊢
        clear hu
        have c0 := HF.out.f.b0.1; have c1 := HF.out.f.b1.1; have c2 := HF.out.f.b2.1; have f2 := HF.out.f.b2.2; have n0 := HF.out.c.1
        have nn : N ≠ B + 1 + 1 := by omega
        obtain ⟨k1, k2, k3⟩ := leaves (u := .bool true) HF.out.f.b2 HF.out.d (by omega) (by omega) (by omega) HF.out.f.n
        by_cases hst : 1 ≤ stop
        · have ds : decide (1 ≤ stop) = true := decide_eq_true hst
          have hm : min (u : Int) stop = v := HV.out _ (by rw [if_pos hst])
          have hmin : ∀ (ts : Array TypeId) (t : TypeId) (w : World), (Builtin.min_ ts t #[.int .i64 (u : Int), .int .i64 stop]).run Try.prog w = .ok (.int .i64 v) w := fun ts t w => min_run _ _ _ hm ts t w
          clear hm hst
          go_wp2
          refine ⟨by simp, .inl ⟨_, _, rfl, run_takeDeferred k1, ?_⟩⟩
          refine ⟨.bool true, ?_, rfl, by first | exact k3 | (rw [hB]; exact k3)⟩
          simp [results, Try.f6, go_sem, k2]
        · have ds : decide (1 ≤ stop) = false := decide_eq_false hst
          obtain rfl : (u : Int) = v := HV.out _ (by rw [if_neg hst])
          clear hst
          go_wp2
          refine ⟨by simp, .inl ⟨_, _, rfl, run_takeDeferred k1, ?_⟩⟩
          refine ⟨.bool true, ?_, rfl, by first | exact k3 | (rw [hB]; exact k3)⟩
          simp [results, Try.f6, go_sem, k2]
set_option maxRecDepth 100000 in
set_option maxHeartbeats 2000000 in
theorem faultLasting_early (a : Option Addr) (len cap : Nat) (stop : Int) (h60 : 60 < len) (w : World) :
    CallsIn Fence.wide 10 Try.prog 6 #[.slice a len cap, .int .i64 stop] w fun e w' => e = .returned (.bool true) ∧ Below w.heap.size w w' := by
  have A0 : Hid (∀ w : World, Calls Try.prog 8 #[] w fun e w' => e = .returned (.bool true) ∧ Below w.heap.size w w') := anchor11_any
  refine callsIn_of_wp_marks Try.func6 rfl trivial ?_ rfl
  simp only [Try.ntmps6, List.size_toArray, List.length_cons, List.length_nil, Nat.reduceAdd, Nat.reduceSub, Array.replicate_succ, Array.replicate_zero, List.push_toArray, List.append_toArray, List.nil_append, List.cons_append]
  refine wpIn_wide.2 ?_
  have d60 : decide (60 < (len : Int)) = true := decide_eq_true (by omega)
  clear h60
  go_wp2_with fail
  obtain ⟨V0, hV0⟩ : ∃ V0, ((w.alloc (.cells #[.slice a len cap] 39)).alloc (.cells #[.int .i64 stop] 3)).alloc (.cells #[.bool false] 4) = V0 := ⟨_, rfl⟩
  obtain ⟨s0, x0, x1, x2, hS0⟩ := box3 w _ _ _ _ _ _ V0 hV0
  rw [hV0]
  clear hV0
  refine (A0.out _).mono ?_
  rintro e V1 ⟨rfl, hB1⟩
  have y0 := x0.below hB1 x0.lt
  have y2 := x2.below hB1 x2.lt
  have hB : Below w.heap.size w V1 := (below_stay (Below.refl _ w) hS0 (Nat.le_refl _)).trans (hB1.mono (by omega))
  have c0 := y0.1; have c2 := y2.1; have f2 := y2.2
  have hB' := hB.setCell (p := ⟨w.heap.size + 1 + 1, 0, none⟩) (by simp; omega) (.bool true)
  have k2 := (y2.set (.bool true)).1
  clear x0 x1 x2 hS0 hB1 s0 y0 y2
  go_wp2
  refine ⟨.bool true, ?_, rfl, hB'⟩
  simp [results, Try.f6, go_sem, k2]
theorem faultLasting_walk (a0 : Option Addr) (len0 cap0 : Nat) (Z0 : Nat → Nat → Int) (a1 : Int) (_w1 : (Lit.int .i64 a1).wf = true) (w : World) (w0 : IsFlat .i64 8 w a0 len0 cap0 Z0) :
    Calls Try.prog 6 #[.slice a0 len0 cap0, .int .i64 a1] w fun e w' => e = .returned (.bool true) ∧ Below w.heap.size w w' := by
  refine (callsIn_wide (n := 10)).1 ?_
  by_cases h60 : len0 ≤ 60
  · exact faultLasting_core a0 len0 cap0 Z0 a1 h60 w w0.fs
  · exact faultLasting_early a0 len0 cap0 a1 (by omega) w
end Go.Proofs.Ytlacmkcmfkakjaa
