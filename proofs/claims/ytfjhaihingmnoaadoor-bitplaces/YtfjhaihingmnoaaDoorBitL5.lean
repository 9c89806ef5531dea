/-
  The law BitPlaces.
-/
import Derived.Test.YtfjhaihingmnoaaDoorBitL4
import Derived.Deep.DeepCutAuto
namespace Go.Proofs.YtfjhaihingmnoaaDoor
open Go.RowKit Go.Shelf
open Bm (wt wtK lef)
attribute [local go_sem] Oper.semAt_some

theorem dif_mix (F G X : Nat → Nat) (x K : Nat) (h : ∀ y, y < K → gb X y = if y < x then gb G y else gb F y) : dif X G K + dif F G (min K x) = dif F G K := by
  induction K with
  | zero => simp [dif]
  | succ K ih =>
    have ih' := ih fun y hy => h y (by omega)
    have hK := h K (by omega)
    by_cases e : K < x
    · rw [if_pos e] at hK
      rw [show min K x = K from by omega] at ih'
      rw [show min (K + 1) x = K + 1 from by omega, dif_no X G K hK]; omega
    · rw [if_neg e] at hK
      rw [show min K x = x from by omega] at ih'
      rw [show min (K + 1) x = x from by omega]
      by_cases hg : gb F K = gb G K
      · rw [dif_no X G K (by rw [hK]; exact hg), dif_no F G K hg]; exact ih'
      · rw [dif_yes X G K (by rw [hK]; exact hg), dif_yes F G K hg]; omega
theorem dif_cutr (lo : Nat) (X G : Nat → Nat) : dif X (cut lo G) (8 * lo) = dif X G (8 * lo) :=
  dif_congr _ _ _ _ _ fun i hi => by rw [gb_cut lo G i hi]

/-- between two rounds: X what x holds -/
structure PcI (B P lo : Nat) (va vb : Value) (F G : Nat → Nat) (w : World) (x : Nat) (W : World) : Prop where
  count : Box W (P + 1 + 1) (.int .i64 (dif F G x : Int))
  xs : ∃ ax cx X, Box W (P + 1) (.slice ax lo cx) ∧ Sl W ax lo cx X ∧ (∀ b o, ax = some ⟨b, o, none⟩ → 0 < lo → b < B ∨ P + 3 ≤ b) ∧ ∀ y, y < 8 * lo → gb X y = if y < x then gb G y else gb F y
  nb : Box W P (.int .i64 (lo : Int))
  b0 : Box W B va
  b1 : Box W (B + 1) vb
  b2 : Box W (B + 1 + 1) (.bool false)
  below : Below B w W

set_option maxRecDepth 100000 in
set_option maxHeartbeats 8000000 in
theorem bitPlaces_core (a0 : Option Addr) (n c : Nat) (F : Nat → Nat) (a1 : Option Addr) (m d : Nat) (G : Nat → Nat) (hn : n ≤ 100) (hm : m ≤ 100) (w : World) (hs : Sl w a0 n c F) (ht : Sl w a1 m d G) (hTw : TabW w) :
    CallsIn Fence.wide 10 Tryd.prog 5 #[.slice a0 n c, .slice a1 m d] w fun e w' => e = .returned (.bool true) ∧ Below w.heap.size w w' := by
  have HS : Hid (Sl w a0 n c F) := hs
  have HT : Hid (Sl w a1 m d G) := ht
  have HTw : Hid (TabW w) := hTw
  have hT0 := hTw.lt
  have hcc := hs.cap
  have hdd := ht.cap
  clear hs ht hTw
  obtain ⟨lo, hlo, Hlo⟩ : ∃ lo, min n m = lo ∧ Hid (lo ≤ n ∧ lo ≤ m) := ⟨_, rfl, by show _ ∧ _; omega⟩
  have hlo1 : lo ≤ n := by omega
  have hlo2 : lo ≤ m := by omega
  have rmin : ∀ (ts : Array TypeId) (t : TypeId) (w : World), (Builtin.min_ ts t #[.int .i64 (n : Int), .int .i64 (m : Int)]).run Tryd.prog w = .ok (.int .i64 (lo : Int)) w := fun ts t w => min_run _ _ _ (by omega) ts t w
  obtain ⟨D, hDle, HDD⟩ : ∃ D, D ≤ 8 * lo ∧ Hid (dif F G (8 * lo) = D) := ⟨_, dif_le F G _, rfl⟩
  have hloc : lo ≤ c := by omega
  have hlod : lo ≤ d := by omega
  refine callsIn_of_wp_marks Tryd.func5 rfl trivial ?_ rfl
  simp only [Tryd.ntmps5, List.size_toArray, List.length_cons, List.length_nil, Nat.reduceAdd, Nat.reduceSub, Array.replicate_succ, Array.replicate_zero, List.push_toArray, List.append_toArray, List.nil_append, List.cons_append]
  refine wpIn_wide.2 ?_
  go_wp2_with fail
  obtain ⟨V0, hV0⟩ : ∃ V0, ((w.alloc (.cells #[.slice a0 n c] 35)).alloc (.cells #[.slice a1 m d] 35)).alloc (.cells #[.bool false] 4) = V0 := ⟨_, rfl⟩
  obtain ⟨s0, x0, x1, x2, hS0⟩ := box3 w _ _ _ _ _ _ V0 hV0
  rw [hV0]
  clear hV0
  refine (anchor_any _).mono ?_
  rintro e V1 ⟨rfl, hB1⟩
  have y0 := x0.below hB1 x0.lt
  have y1 := x1.below hB1 x1.lt
  have y2 := x2.below hB1 x2.lt
  have hB : Below w.heap.size w V1 := (below_stay (Below.refl _ w) hS0 (Nat.le_refl _)).trans (hB1.mono (by omega))
  have s1 : w.heap.size + 3 ≤ V1.heap.size := by have := hB1.size; omega
  clear x0 x1 x2 hS0 hB1 s0
  have c0 := y0.1; have c1 := y1.1
  have dn : decide (100 < (n : Int)) = false := by simp; omega
  have dm : decide (100 < (m : Int)) = false := by simp; omega
  have l0 : w.heap.size < V1.heap.size := by omega
  have l1 : w.heap.size + 1 < V1.heap.size := by omega
  have l2 : w.heap.size + 1 + 1 < V1.heap.size := by omega
  go_upto_region 8 with (fail)
  obtain ⟨V5, hV5⟩ : ∃ V5, ((V1.alloc (.cells #[.int .i64 (lo : Int)] 3)).alloc (.cells #[.slice a0 lo c] 35)).alloc (.cells #[.int .i64 0] 3) = V5 := ⟨_, rfl⟩
  obtain ⟨s5, p0, p1, p2, hS5⟩ := box3 V1 _ _ _ _ _ _ V5 hV5
  rw [hV5]
  clear hV5 c0 c1 dn dm
  have r0 := y0.stayed hS5
  have r1 := y1.stayed hS5
  have r2 := y2.stayed hS5
  have hB5 : Below w.heap.size w V5 := below_stay hB hS5 (by omega)
  clear y0 y1 y2 hB hS5
  have c0 := r0.1; have c1 := r1.1
  go_wp2_with fail
  refine (places_any a0 n c F a1 m d G (by omega) (by omega) V5 (HS.out.below hB5 (Nat.le_refl _)) (HT.out.below hB5 (Nat.le_refl _))).mono ?_
  rintro e V6 ⟨rfl, hB6, hbx, hsl⟩
  rw [hlo] at hbx hsl
  have q0 := p0.below hB6 p0.lt
  have q1 := p1.below hB6 p1.lt
  have q5 := p2.below hB6 p2.lt
  have q2 := r0.below hB6 r0.lt
  have q3 := r1.below hB6 r1.lt
  have q4 := r2.below hB6 r2.lt
  have hB7 : Below w.heap.size w V6 := hB5.trans (hB6.mono (by omega))
  have hTV : TabW V6 := HTw.out.below hB7 hT0
  have s6 : V1.heap.size + 3 ≤ V6.heap.size := by have := hB6.size; omega
  have hbl := hbx.lt
  rw [s5] at hbx hsl hbl
  clear p0 p1 p2 r0 r1 r2 hB5 hB6 c0 c1
  go_wp2_with fail
  refine (wpIn_wide (n := 10)).1 (rangeC rfl (enters_of Tryd.func28 (by kernel_rfl) rfl) (places1_seq (V1.heap.size + 3 + 1) (V1.heap.size + 3) lo lo (unl lo F G) (by omega) V6 hbl (by omega) hbx.1 hsl hTV) (fun _ => rfl)
    (fun b => b = V1.heap.size + 1 ∨ b = V1.heap.size + 1 + 1) (by rintro b (rfl | rfl) <;> constructor <;> omega) (by rintro b (rfl | rfl) <;> omega)
    (PcI w.heap.size V1.heap.size lo (.slice a0 n c) (.slice a1 m d) F G w) (fun _ _ _ => False)
    (by rintro x A B ⟨h1, ⟨ax, cx, X, h2, h3, h4, h5⟩, h6, h7, h8, h9, h10⟩ hs; exact ⟨h1.stay hs, ⟨ax, cx, X, h2.stay hs, h3.stay hs, h4, h5⟩, h6.stay hs, h7.stay hs, h8.stay hs, h9.stay hs, below_stay h10 hs (by omega)⟩)
    (fun _ _ _ _ h _ => h.elim)
    ⟨q5, ⟨a0, c, cut lo F, q1, (HS.out.below hB7 (Nat.le_refl _)).take lo hlo1, fun b o e h0 => .inl (HS.out.lt b o e (by omega)), fun y hy => by rw [gb_cut lo F y hy]; simp⟩, q0, q2, q3, q4, hB7⟩
    (by rintro x W hx hp ⟨h1, ⟨ax, cx, X, h2, h3, h4, h5⟩, h6, h7, h8, h9, h10⟩
        have e : gb F x = gb G x := Classical.byContradiction fun hne => hp ((unl_bit lo F G x hx).2 hne)
        refine ⟨by rw [dif_no F G x e]; exact h1, ⟨ax, cx, X, h2, h3, h4, fun y hy => ?_⟩, h6, h7, h8, h9, h10⟩
        rw [h5 y hy]
        by_cases hyx : y < x
        · rw [if_pos hyx, if_pos (by omega)]
        · rw [if_neg hyx]
          by_cases eyx : y = x
          · rw [if_pos (by omega), eyx, e]
          · rw [if_neg (by omega)]) ?round ?done (fun _ _ _ _ _ _ _ h => h.elim))
  case round =>
    rintro l x Wz W2 hx hp ⟨h1, ⟨ax, cx, X, h2, h3, h4, h5⟩, h6, h7, h8, h9, h10⟩
    have hne := (unl_bit lo F G x hx).1 hp
    obtain ⟨k, hk, Hk⟩ : ∃ k, k ≤ x ∧ Hid (dif F G x = k) := ⟨_, dif_le F G x, rfl⟩
    rw [Hk.out] at h1
    have HX : Hid (Sl W2 ax lo cx X) := h3
    have u0 := h2.1; have u1 := h2.2
    have hx3 : x ≤ 800 := by omega
    gi_wp2
    try (refine ⟨trivial, ?_⟩)
    gi_wp2_with fail
    refine ⟨trivial, ?_⟩
    refine (CallsIn.inRound l (callsIn_wide.2 (flip_yes ax lo cx X x hx (by omega) W2 HX.out))).mono ?_
    rintro e W3 ⟨a', c', rfl, N⟩
    have hBN := N.below
    obtain ⟨g, rfl, hg, _⟩ := N.fresh (by omega)
    have v1 := h1.below hBN h1.lt
    have v2 := h2.below hBN h2.lt
    have v6 := h6.below hBN h6.lt
    have v7 := h7.below hBN h7.lt
    have v8 := h8.below hBN h8.lt
    have v9 := h9.below hBN h9.lt
    have hB3 : Below w.heap.size w W3 := h10.trans (hBN.mono h10.size)
    have hKp : Keep (fun b => b = V1.heap.size + 1 ∨ b = V1.heap.size + 1 + 1) W2 W3 := Keep.below hBN (Nat.le_refl _)
    have hP2 := h1.lt
    obtain ⟨W4, hW4⟩ : ∃ W4, (W3.setCell ⟨V1.heap.size + 1, 0, none⟩ (.slice (some ⟨g, 0, none⟩) lo c')).setCell ⟨V1.heap.size + 1 + 1, 0, none⟩ (.int .i64 ((k : Int) + 1)) = W4 := ⟨_, rfl⟩
    have k1 : Box W4 (V1.heap.size + 1 + 1) (.int .i64 ((k : Int) + 1)) := by rw [← hW4]; exact (v1.other (by omega) _).set _
    have k2 : Box W4 (V1.heap.size + 1) (.slice (some ⟨g, 0, none⟩) lo c') := by rw [← hW4]; exact (v2.set _).other (by omega) _
    have k6 : Box W4 V1.heap.size (.int .i64 (lo : Int)) := by rw [← hW4]; exact (v6.other (by omega) _).other (by omega) _
    have k7 : Box W4 w.heap.size (.slice a0 n c) := by rw [← hW4]; exact (v7.other (by omega) _).other (by omega) _
    have k8 : Box W4 (w.heap.size + 1) (.slice a1 m d) := by rw [← hW4]; exact (v8.other (by omega) _).other (by omega) _
    have k9 : Box W4 (w.heap.size + 1 + 1) (.bool false) := by rw [← hW4]; exact (v9.other (by omega) _).other (by omega) _
    have hB4 : Below w.heap.size w W4 := by rw [← hW4]; exact (hB3.setCell (p := ⟨V1.heap.size + 1, 0, none⟩) (by simp; omega) _).setCell (p := ⟨V1.heap.size + 1 + 1, 0, none⟩) (by simp; omega) _
    have hK4 : Keep (fun b => b = V1.heap.size + 1 ∨ b = V1.heap.size + 1 + 1) W2 W4 := by rw [← hW4]; exact (hKp.set (.inl rfl) _).set (.inr rfl) _
    have hsl4 : Sl W4 (some ⟨g, 0, none⟩) lo c' (flp X x) := by
      rw [← hW4]
      refine (N.sl.set _ (fun b o e _ => ?_)).set _ (fun b o e _ => ?_)
      · cases e; omega
      · cases e; omega
    have hbits : ∀ y, y < 8 * lo → gb (flp X x) y = if y < x + 1 then gb G y else gb F y := fun y hy => by
      rw [gb_flp, h5 y hy]
      have l1 := gb_le F y
      have l2 := gb_le G y
      by_cases e : y = x
      · subst e
        rw [if_pos rfl, if_neg (by omega), if_pos (by omega)]; omega
      · rw [if_neg e]
        by_cases hyx : y < x
        · rw [if_pos hyx, if_pos (by omega)]
        · rw [if_neg hyx, if_neg (by omega)]
    have hmix := dif_mix F G (flp X x) (x + 1) (8 * lo) hbits
    rw [show min (8 * lo) (x + 1) = x + 1 from by omega, dif_yes F G x hne, Hk.out, HDD.out] at hmix
    obtain ⟨Z, HZ⟩ : ∃ Z, Hid (dif (flp X x) G (8 * lo) = Z) := ⟨_, rfl⟩
    rw [HZ.out] at hmix
    have hDx : Hid (∀ q, Calls Tryd.prog 21 #[.slice (some ⟨g, 0, none⟩) lo c', .slice a1 lo d] (W4.drewN q) fun e w' => e = .returned (.int .i64 (Z : Int)) ∧ ∃ j, w' = (W4.drewN q).drewN j) := fun q => by
      have := differ_any (some ⟨g, 0, none⟩) lo c' (flp X x) a1 lo d (cut lo G) (by omega) (by omega) (W4.drewN q) (hsl4.drewN q) (((HT.out.below hB4 (Nat.le_refl _)).take lo hlo2).drewN q)
      rw [show 8 * (max lo lo - min lo lo) + dif (flp X x) (cut lo G) (8 * min lo lo) = Z from by rw [Nat.max_self, Nat.min_self, dif_cutr, HZ.out]; omega] at this
      exact this
    have hDr : Hid (∀ q, Calls Tryd.prog 19 #[.slice a0 lo c, .slice a1 lo d] (W4.drewN q) fun e w' => e = .returned (.int .i64 (D : Int)) ∧ w' = W4.drewN q) := fun q => by
      have := refDiffer_any a0 lo c (cut lo F) a1 lo d (cut lo G) (by omega) (by omega) (W4.drewN q) (((HS.out.below hB4 (Nat.le_refl _)).take lo hlo1).drewN q) (((HT.out.below hB4 (Nat.le_refl _)).take lo hlo2).drewN q)
      rw [dif_cut, HDD.out] at this; exact this
    have dz : ((Z : Int) != (D : Int) - ((k : Int) + 1)) = false := by rw [bne_eq_false_iff_eq]; omega
    have fin : Hid (∀ q, Keep (fun b => b = V1.heap.size + 1 ∨ b = V1.heap.size + 1 + 1) W2 (W4.drewN q) ∧ PcI w.heap.size V1.heap.size lo (.slice a0 n c) (.slice a1 m d) F G w (x + 1) (W4.drewN q)) := fun q =>
      ⟨hK4.drewN q, ⟨by rw [dif_yes F G x hne, Hk.out]; exact k1.drewN q, ⟨(some ⟨g, 0, none⟩), c', flp X x, k2.drewN q, hsl4.drewN q, fun b o e _ => .inr (by cases e; omega), hbits⟩, k6.drewN q, k7.drewN q, k8.drewN q, k9.drewN q, below_drewN hB4 q⟩⟩
    have t1 := v1.1; have t2 := v1.2; have t3 := v2.1; have t4 := v2.2
    have ns : V1.heap.size + 1 + 1 ≠ V1.heap.size + 1 := by omega
    clear v1 v2 v6 v7 v8 v9 h1 h2 h3 h4 h5 h6 h7 h8 h9 h10 N hKp hK4 hsl4 hbits hmix hB4 hB3 hp hne u0 u1 HX
    gi_wp2
    try rw [hW4]
    clear hW4 t1 t2 t3 t4
    have u0 := k1.1; have u1 := k2.1; have u2 := k6.1; have u3 := k7.1; have u4 := k8.1
    clear k1 k2 k6 k7 k8 k9
    refine quiet_round (by kernel_rfl) (by kernel_rfl) (by kernel_rfl) ?_
    repeat (go_big_quiet_step ((first | (go_at_call 21; exact Calls.quiet_of (hDx.out _)) | (go_at_call 19; exact Calls.quiet_of_same (hDr.out _)))))
    refine wpQuiet_nil ?_
    intro _ hw'
    obtain ⟨nq2, hw''⟩ := hw'
    subst hw''
    gi_wp2
    exact fin.out nq2
  case done =>
    rintro E W hE ⟨h1, ⟨ax, cx, X, h2, h3, h4, h5⟩, h6, h7, h8, h9, h10⟩ hK
    have hmix := dif_mix F G X (8 * lo) (8 * lo) h5
    rw [Nat.min_self] at hmix
    have hDr : Hid (∀ q, Calls Tryd.prog 19 #[.slice ax lo cx, .slice a1 lo d] (W.drewN q) fun e w' => e = .returned (.int .i64 0) ∧ w' = W.drewN q) := fun q => by
      have := refDiffer_any ax lo cx X a1 lo d (cut lo G) (by omega) (by omega) (W.drewN q) (h3.drewN q) (((HT.out.below h10 (Nat.le_refl _)).take lo hlo2).drewN q)
      rw [dif_cutr, show dif X G (8 * lo) = 0 from by omega] at this; exact this
    have u0 := h2.1; have u2 := h6.1; have u4 := h8.1; have u6 := h9.1; have u7 := h9.2
    have H9 : Hid (Box W (w.heap.size + 1 + 1) (.bool false)) := h9
    have H10 : Hid (Below w.heap.size w W) := h10
    have HK : Hid (W.heap[E]? = some (.deferred (some []))) := hK
    clear h1 h2 h3 h4 h5 h6 h7 h8 h9 h10 hK hmix
    go_wp2
    obtain ⟨B2, hB2, nb0, nb1, nb2, nb7, nb3⟩ : ∃ B2, w.heap.size + 1 + 1 = B2 ∧ B2 ≠ w.heap.size + 1 ∧ B2 ≠ V1.heap.size ∧ B2 ≠ V1.heap.size + 1 ∧ B2 ≠ w.heap.size ∧ Hid (w.heap.size + 2 = B2) := ⟨_, rfl, by omega, by omega, by omega, by omega, rfl⟩
    have nb4 : w.heap.size + 1 ≠ B2 := fun e => nb0 e.symm
    have nb5 : V1.heap.size ≠ B2 := fun e => nb1 e.symm
    have nb6 : V1.heap.size + 1 ≠ B2 := fun e => nb2 e.symm
    rw [hB2] at u6 u7 H9 ⊢
    clear hB2
    go_region_held3 (fun w' => w'.cell? ⟨V1.heap.size + 1, 0, none⟩ = some (.slice ax lo cx) ∧ w'.cell? ⟨w.heap.size + 1, 0, none⟩ = some (.slice a1 m d) ∧ w'.cell? ⟨V1.heap.size, 0, none⟩ = some (.int .i64 (lo : Int))) (go_keep)
      (first | (go_at_call 19; refine (hDr.out 1).mono ?_; rintro e w' ⟨rfl, rfl⟩))
    obtain ⟨k1, k2, k3⟩ := leaves (W := W.drewN 1) (u := .bool true) (H9.out.drewN _) HK.out (by have := nb3.out; omega) (by omega) (by have := nb3.out; omega) (below_drewN H10.out _)
    go_wp2
    refine ⟨by simp, .inl ⟨_, _, rfl, run_takeDeferred k1, ?_⟩⟩
    refine ⟨.bool true, ?_, rfl, k3⟩
    simp [results, Tryd.f5, go_sem, k2]

set_option maxRecDepth 100000 in
set_option maxHeartbeats 2000000 in
theorem bitPlaces_early (a0 : Option Addr) (n c : Nat) (a1 : Option Addr) (m d : Nat) (h : 100 < n ∨ 100 < m) (hn : (n : Int) ≤ 9223372036854775807) (hm : (m : Int) ≤ 9223372036854775807) (w : World) :
    CallsIn Fence.wide 10 Tryd.prog 5 #[.slice a0 n c, .slice a1 m d] w fun e w' => e = .returned (.bool true) ∧ Below w.heap.size w w' := by
  refine callsIn_of_wp_marks Tryd.func5 rfl trivial ?_ rfl
  simp only [Tryd.ntmps5, List.size_toArray, List.length_cons, List.length_nil, Nat.reduceAdd, Nat.reduceSub, Array.replicate_succ, Array.replicate_zero, List.push_toArray, List.append_toArray, List.nil_append, List.cons_append]
  refine wpIn_wide.2 ?_
  have HH : Hid (100 < n ∨ 100 < m) := h
  clear h
  go_wp2_with fail
  obtain ⟨V0, hV0⟩ : ∃ V0, ((w.alloc (.cells #[.slice a0 n c] 35)).alloc (.cells #[.slice a1 m d] 35)).alloc (.cells #[.bool false] 4) = V0 := ⟨_, rfl⟩
  obtain ⟨s0, x0, x1, x2, hS0⟩ := box3 w _ _ _ _ _ _ V0 hV0
  rw [hV0]
  clear hV0
  refine (anchor_any _).mono ?_
  rintro e V1 ⟨rfl, hB1⟩
  have y0 := x0.below hB1 x0.lt
  have y1 := x1.below hB1 x1.lt
  have y2 := x2.below hB1 x2.lt
  have hB : Below w.heap.size w V1 := (below_stay (Below.refl _ w) hS0 (Nat.le_refl _)).trans (hB1.mono (by omega))
  have c0 := y0.1; have c1 := y1.1; have c2 := y2.1; have f2 := y2.2
  have hB' := hB.setCell (p := ⟨w.heap.size + 1 + 1, 0, none⟩) (by simp; omega) (.bool true)
  have k2 := (y2.set (.bool true)).1
  clear x0 x1 x2 hS0 hB1 s0 y0 y1 y2
  by_cases h1 : 100 < n
  · have dn : decide (100 < (n : Int)) = true := by simp; omega
    go_wp2
    refine ⟨.bool true, ?_, rfl, hB'⟩
    simp [results, Tryd.f5, go_sem, k2]
  · have dn : decide (100 < (n : Int)) = false := by simp; omega
    have dm : decide (100 < (m : Int)) = true := by have := HH.out; simp; omega
    go_wp2
    refine ⟨.bool true, ?_, rfl, hB'⟩
    simp [results, Tryd.f5, go_sem, k2]

theorem bitPlaces_walk (a0 : Option Addr) (n c : Nat) (z0 : List Int) (a1 : Option Addr) (m d : Nat) (z1 : List Int) (w : World) (w0 : IsRow .u8 w a0 n c z0) (w1 : IsRow .u8 w a1 m d z1) (hT : TabW w) :
    Calls Tryd.prog 5 #[.slice a0 n c, .slice a1 m d] w fun e w' => e = .returned (.bool true) ∧ Below w.heap.size w w' := by
  obtain ⟨F, hF, bn, _⟩ := w0.slice
  obtain ⟨G, hG, bm, _⟩ := w1.slice
  refine (callsIn_wide (n := 10)).1 ?_
  by_cases hbig : 100 < n ∨ 100 < m
  · exact bitPlaces_early a0 n c a1 m d hbig bn bm w
  · exact bitPlaces_core a0 n c F a1 m d G (by omega) (by omega) w hF hG hT
end Go.Proofs.YtfjhaihingmnoaaDoor
