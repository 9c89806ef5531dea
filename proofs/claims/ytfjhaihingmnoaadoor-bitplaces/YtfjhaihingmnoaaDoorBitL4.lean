/-
  The law BitBytes.
-/
import Derived.Test.YtfjhaihingmnoaaDoorBitW8
import Derived.OpenShut
import Derived.BigQuiet
import Derived.Deep.RegionWith
import Derived.Deep.RegionHeld3
namespace Go.Proofs.YtfjhaihingmnoaaDoor
open Go.RowKit Go.Shelf
open Bm (wt wtK lef)
attribute [local go_sem] Oper.semAt_some

theorem wrap_small (x : Int) (h0 : 0 ≤ x) (h1 : x < 4611686018427387904) : IntKind.i64.wrap x = x := by
  simp [IntKind.wrap, IntKind.signed, IntKind.bits]; omega
theorem dif_same (F : Nat → Nat) (k : Nat) : dif F F k = 0 := by
  induction k with
  | zero => rfl
  | succ k ih => rw [dif_no F F k rfl, ih]
theorem dif_flip (F : Nat → Nat) (i k : Nat) : dif F (flp F i) k = if i < k then 1 else 0 := by
  induction k with
  | zero => rfl
  | succ k ih =>
    have hg := gb_flp F i k
    have hl := gb_le F k
    by_cases e : k = i
    · subst e
      rw [if_pos rfl] at hg
      rw [dif_yes _ _ _ (by omega), ih, if_neg (by omega), if_pos (by omega)]
    · rw [if_neg e] at hg
      rw [dif_no _ _ _ hg.symm, ih]
      by_cases h : i < k
      · rw [if_pos h, if_pos (by omega)]
      · rw [if_neg h, if_neg (by omega)]
theorem gb_cut (lo : Nat) (F : Nat → Nat) (x : Nat) (h : x < 8 * lo) : gb (cut lo F) x = gb F x := by unfold gb cut; rw [if_pos (by omega)]
theorem dif_cut (lo : Nat) (F G : Nat → Nat) : dif (cut lo F) (cut lo G) (8 * lo) = dif F G (8 * lo) :=
  dif_congr _ _ _ _ _ fun i hi => by rw [gb_cut lo F i hi, gb_cut lo G i hi]
set_option maxHeartbeats 1000000 in
theorem refGet_no (a : Option Addr) (n c : Nat) (i : Int) (h : i < 0 ∨ 8 * n ≤ i) (hi : i ≤ 9223372036854775807) (hn : n ≤ 1000) (w : World) :
    Calls Tryd.prog 18 #[.slice a n c, .int .i64 i] w fun e w' => e = .returned (.int .i64 0) ∧ w' = w := by
  by_cases h0 : i < 0
  · have d : decide (i < 0) = true := by simp [h0]
    clear h
    go_enter Tryd.func18, Tryd.ntmps18
    go_wp2
    go_ret
    exact ⟨rfl, rfl⟩
  · have d : decide (i < 0) = false := by simp; omega
    have e : i.tdiv 8 = i / 8 := Int.tdiv_eq_ediv_of_nonneg (by omega)
    have d2 : decide ((n : Int) ≤ i / 8) = true := by simp; omega
    have d3 : (n : Int) ≤ i / 8 := by omega
    clear h
    go_enter Tryd.func18, Tryd.ntmps18
    go_wp2_with (simp only [e])
    go_ret
    exact ⟨rfl, rfl⟩

/-- between two rounds -/
structure ByI (B S : Nat) (va vb : Value) (F G : Nat → Nat) (w : World) (x : Nat) (W : World) : Prop where
  seen : Box W S (.int .i64 (dif F G x : Int))
  last : ∃ L : Int, -1 ≤ L ∧ L < x ∧ L ≤ 8000 ∧ Box W (S + 1) (.int .i64 L)
  b0 : Box W B va
  b1 : Box W (B + 1) vb
  b2 : Box W (B + 1 + 1) (.bool false)
  below : Below B w W

set_option maxRecDepth 100000 in
set_option maxHeartbeats 8000000 in
theorem bitBytes_core (a0 : Option Addr) (n c : Nat) (F : Nat → Nat) (a1 : Option Addr) (m d : Nat) (G : Nat → Nat) (i : Int) (H : Nat → Nat) (hn : n ≤ 200) (hm : m ≤ 200) (w : World) (hs : Sl w a0 n c F) (ht : Sl w a1 m d G) (hTw : TabW w)
    (tv : Bool) (g1 g2 : Nat) (_hg1 : g1 ≤ 1) (_hg2 : g2 ≤ 1) (hg : ((g2 : Int) != (g1 : Int)) = tv) (hD : dif F H (8 * n) = if tv then 1 else 0)
    (hway : (tv = true ∧ 0 ≤ i ∧ i < 8 * n) ∨ (tv = false ∧ i < 0) ∨ (tv = false ∧ 0 ≤ i ∧ 8 * n ≤ i)) (hi : i ≤ 9223372036854775807)
    (hflip : Hid (∀ w, Sl w a0 n c F → Calls Tryd.prog 16 #[.slice a0 n c, .int .i64 i] w fun e w' => ∃ a' c', e = .returned (.slice a' n c') ∧ NewSl w w' a' n c' H))
    (hga : Hid (∀ w, Sl w a0 n c F → Calls Tryd.prog 17 #[.slice a0 n c, .int .i64 i] w fun e w' => e = .returned (.int .i64 (g1 : Int)) ∧ w' = w))
    (hra : Hid (∀ w, Sl w a0 n c F → Calls Tryd.prog 18 #[.slice a0 n c, .int .i64 i] w fun e w' => e = .returned (.int .i64 (g1 : Int)) ∧ w' = w))
    (hgf : Hid (∀ w a' c', Sl w a' n c' H → Calls Tryd.prog 17 #[.slice a' n c', .int .i64 i] w fun e w' => e = .returned (.int .i64 (g2 : Int)) ∧ w' = w)) :
    CallsIn Fence.wide 10 Tryd.prog 4 #[.slice a0 n c, .slice a1 m d, .int .i64 i] w fun e w' => e = .returned (.bool true) ∧ Below w.heap.size w w' := by
  have HS : Hid (Sl w a0 n c F) := hs
  have HT : Hid (Sl w a1 m d G) := ht
  have HTw : Hid (TabW w) := hTw
  have hT0 := hTw.lt
  have hcc := hs.cap
  have hdd := ht.cap
  clear hs ht hTw
  refine callsIn_of_wp_marks Tryd.func4 rfl trivial ?_ rfl
  simp only [Tryd.ntmps4, List.size_toArray, List.length_cons, List.length_nil, Nat.reduceAdd, Nat.reduceSub, Array.replicate_succ, Array.replicate_zero, List.push_toArray, List.append_toArray, List.nil_append, List.cons_append]
  refine wpIn_wide.2 ?_
  go_wp2_with fail
  obtain ⟨V0, hV0⟩ : ∃ V0, ((w.alloc (.cells #[.slice a0 n c] 35)).alloc (.cells #[.slice a1 m d] 35)).alloc (.cells #[.bool false] 4) = V0 := ⟨_, rfl⟩
  obtain ⟨s0, x0, x1, x2, hS0⟩ := box3 w _ _ _ _ _ _ V0 hV0
  rw [hV0]
  clear hV0
  refine (anchor_any _).mono ?_
  rintro e V1 ⟨rfl, hB1⟩
  have y0 := x0.below hB1 x0.lt
  have y1 := x1.below hB1 x1.lt
  have y2 := x2.below hB1 x2.lt
  have hB : Below w.heap.size w V1 := (below_stay (Below.refl _ w) hS0 (Nat.le_refl _)).trans (hB1.mono (by omega))
  have s1 : w.heap.size + 3 ≤ V1.heap.size := by have := hB1.size; omega
  clear x0 x1 x2 hS0 hB1 s0
  have c0 := y0.1; have c1 := y1.1
  have dn : decide (200 < (n : Int)) = false := by simp; omega
  have dm : decide (200 < (m : Int)) = false := by simp; omega
  go_wp2_with fail
  refine (hflip.out _ (HS.out.below hB (Nat.le_refl _))).mono ?_
  rintro e V2 ⟨a', c', rfl, N⟩
  have hBV := N.below
  have z0 := y0.below hBV y0.lt
  have z1 := y1.below hBV y1.lt
  have z2 := y2.below hBV y2.lt
  have hB2 : Below w.heap.size w V2 := hB.trans (hBV.mono (by omega))
  have s2 : w.heap.size + 3 ≤ V2.heap.size := by have := hBV.size; omega
  have hS2 := HS.out.below hB2 (Nat.le_refl _)
  have hT2 := HT.out.below hB2 (Nat.le_refl _)
  have hGa : Hid (∀ k, Calls Tryd.prog 17 #[.slice a0 n c, .int .i64 i] (V2.drewN k) fun e w' => e = .returned (.int .i64 (g1 : Int)) ∧ w' = V2.drewN k) := fun k => hga.out _ (hS2.drewN k)
  have hRa : Hid (∀ k, Calls Tryd.prog 18 #[.slice a0 n c, .int .i64 i] (V2.drewN k) fun e w' => e = .returned (.int .i64 (g1 : Int)) ∧ w' = V2.drewN k) := fun k => hra.out _ (hS2.drewN k)
  have hGf : Hid (∀ k, Calls Tryd.prog 17 #[.slice a' n c', .int .i64 i] (V2.drewN k) fun e w' => e = .returned (.int .i64 (g2 : Int)) ∧ w' = V2.drewN k) := fun k => hgf.out _ _ _ (N.sl.drewN k)
  have hDf : Hid (∀ k, Calls Tryd.prog 19 #[.slice a0 n c, .slice a' n c'] (V2.drewN k) fun e w' => e = .returned (.int .i64 ((if tv then 1 else 0 : Nat) : Int)) ∧ w' = V2.drewN k) := fun k => by
    have := refDiffer_any a0 n c F a' n c' H (by omega) (by omega) (V2.drewN k) (hS2.drewN k) (N.sl.drewN k)
    rw [hD] at this; exact this
  obtain ⟨lo, hlo, Hlo⟩ : ∃ lo, min n m = lo ∧ Hid (lo ≤ n ∧ lo ≤ m) := ⟨_, rfl, by show _ ∧ _; omega⟩
  have hlo1 : lo ≤ n := by omega
  have hlo2 : lo ≤ m := by omega
  have rmin : ∀ (ts : Array TypeId) (t : TypeId) (w : World), (Builtin.min_ ts t #[.int .i64 (n : Int), .int .i64 (m : Int)]).run Tryd.prog w = .ok (.int .i64 (lo : Int)) w := fun ts t w => min_run _ _ _ (by omega) ts t w
  obtain ⟨D, hDle, HDD⟩ : ∃ D, D ≤ 8 * lo ∧ Hid (dif F G (8 * lo) = D) := ⟨_, dif_le F G _, rfl⟩
  have hloc : lo ≤ c := by omega
  have hlod : lo ≤ d := by omega
  clear hBV y0 y1 y2 hB s1 c0 c1 N hga hra hgf hflip hD dn dm hS2 hT2
  have c0 := z0.1; have c1 := z1.1
  have dnn : ((n : Int) != (n : Int)) = false := by simp
  have dgg : ((g1 : Int) != (g1 : Int)) = false := by simp
  have dtt : (tv != tv) = false := by simp
  rcases hway with ⟨rfl, h1, h2⟩ | ⟨rfl, h1⟩ | ⟨rfl, h1, h2⟩
  · have e8 : i.tdiv 8 = i / 8 := Int.tdiv_eq_ediv_of_nonneg h1
    have q1 : decide (0 ≤ i) = true := by simp [h1]
    have q2 : decide (i / 8 < (n : Int)) = true := by simp; omega
    go_wp2
    go_big_quiet ((first | (go_at_call_of 17 (Value.slice a0 n c); exact Calls.quiet_of_same (hGa.out _)) | (go_at_call_of 17 (Value.slice a' n c'); exact Calls.quiet_of_same (hGf.out _)) | (go_at_call 18; exact Calls.quiet_of_same (hRa.out _)) | (go_at_call 19; exact Calls.quiet_of_same (hDf.out _))))
    clear q1 q2 e8 h1 h2
    obtain ⟨V3, hV3, t0, t1, t2, hB3, s3⟩ : ∃ V3, V2.drewN nq = V3 ∧ Box V3 w.heap.size (.slice a0 n c) ∧ Box V3 (w.heap.size + 1) (.slice a1 m d) ∧ Box V3 (w.heap.size + 1 + 1) (.bool false) ∧ Below w.heap.size w V3 ∧ w.heap.size + 3 ≤ V3.heap.size :=
      ⟨_, rfl, z0.drewN nq, z1.drewN nq, z2.drewN nq, below_drewN hB2 nq, s2⟩
    rw [hV3]
    clear hV3 z0 z1 z2 hB2 s2 c0 c1 hGa hRa hGf hDf hg dgg dtt dnn
    have hDd : Hid (∀ k, Calls Tryd.prog 19 #[.slice a0 lo c, .slice a1 lo d] (V3.drewN k) fun e w' => e = .returned (.int .i64 (D : Int)) ∧ w' = V3.drewN k) := fun k => by
      have := refDiffer_any a0 lo c (cut lo F) a1 lo d (cut lo G) (by omega) (by omega) (V3.drewN k) (((HS.out.below hB3 (Nat.le_refl _)).take lo hlo1).drewN k) (((HT.out.below hB3 (Nat.le_refl _)).take lo hlo2).drewN k)
      rw [dif_cut, HDD.out] at this; exact this
    have c0 := t0.1; have c1 := t1.1
    go_wp2
    go_big_quiet ((go_at_call 19; exact Calls.quiet_of_same (hDd.out _)))
    obtain ⟨V4, hV4, r0, r1, r2, hB4, s4⟩ : ∃ V4, V3.drewN nq = V4 ∧ Box V4 w.heap.size (.slice a0 n c) ∧ Box V4 (w.heap.size + 1) (.slice a1 m d) ∧ Box V4 (w.heap.size + 1 + 1) (.bool false) ∧ Below w.heap.size w V4 ∧ w.heap.size + 3 ≤ V4.heap.size :=
      ⟨_, rfl, t0.drewN nq, t1.drewN nq, t2.drewN nq, below_drewN hB3 nq, s3⟩
    rw [hV4]
    clear hV4 t0 t1 t2 hB3 s3 c0 c1 hDd
    have c0 := r0.1; have c1 := r1.1
    have l0 : w.heap.size < V4.heap.size := by omega
    have l1 : w.heap.size + 1 < V4.heap.size := by omega
    have l2 : w.heap.size + 1 + 1 < V4.heap.size := by omega
    go_wp2_with fail
    obtain ⟨V5, hV5⟩ : ∃ V5, (V4.alloc (.cells #[.int .i64 0] 3)).alloc (.cells #[.int .i64 (-1)] 3) = V5 := ⟨_, rfl⟩
    obtain ⟨s5, p0, p1, hS5⟩ := box2 V4 _ _ _ _ V5 hV5
    rw [hV5]
    clear hV5 c0 c1
    have hB5 : Below w.heap.size w V5 := below_stay hB4 hS5 (by omega)
    refine (places_any a0 n c F a1 m d G (by omega) (by omega) V5 (HS.out.below hB5 (Nat.le_refl _)) (HT.out.below hB5 (Nat.le_refl _))).mono ?_
    rintro e V6 ⟨rfl, hB6, hbx, hsl⟩
    rw [hlo] at hbx hsl
    have q0 := p0.below hB6 p0.lt
    have q1 := p1.below hB6 p1.lt
    have q2 := (r0.stayed hS5).below hB6 (r0.stayed hS5).lt
    have q3 := (r1.stayed hS5).below hB6 (r1.stayed hS5).lt
    have q4 := (r2.stayed hS5).below hB6 (r2.stayed hS5).lt
    have hB7 : Below w.heap.size w V6 := hB5.trans (hB6.mono (by omega))
    have hTV : TabW V6 := HTw.out.below hB7 hT0
    have s6 : V4.heap.size + 2 ≤ V6.heap.size := by have := hB6.size; omega
    have hbl := hbx.lt
    rw [s5] at hbx hsl hbl
    clear p0 p1 r0 r1 r2 hS5 hB4 hB5 hB6
    go_wp2_with fail
    refine (wpIn_wide (n := 10)).1 (rangeC rfl (enters_of Tryd.func28 (by kernel_rfl) rfl) (places1_seq (V4.heap.size + 2 + 1) (V4.heap.size + 2) lo lo (unl lo F G) (by omega) V6 hbl (by omega) hbx.1 hsl hTV) (fun _ => rfl)
      (fun b => b = V4.heap.size ∨ b = V4.heap.size + 1) (by rintro b (rfl | rfl) <;> constructor <;> omega) (by rintro b (rfl | rfl) <;> omega)
      (ByI w.heap.size V4.heap.size (.slice a0 n c) (.slice a1 m d) F G w) (fun _ _ _ => False)
      (by rintro x A B ⟨h1, ⟨L, h2, h3, h4, h5⟩, h6, h7, h8, h9⟩ hs; exact ⟨h1.stay hs, ⟨L, h2, h3, h4, h5.stay hs⟩, h6.stay hs, h7.stay hs, h8.stay hs, below_stay h9 hs (by omega)⟩)
      (fun _ _ _ _ h _ => h.elim) ⟨q0, ⟨-1, by omega, by omega, by omega, q1⟩, q2, q3, q4, hB7⟩
      (by rintro x W hx hp ⟨h1, ⟨L, h2, h3, h4, h5⟩, h6, h7, h8, h9⟩
          refine ⟨?_, ⟨L, h2, by omega, h4, h5⟩, h6, h7, h8, h9⟩
          have e : gb F x = gb G x := Classical.byContradiction fun hne => hp ((unl_bit lo F G x hx).2 hne)
          rw [dif_no F G x e]; exact h1) ?round ?done (fun _ _ _ _ _ _ _ h => h.elim))
    case round =>
      rintro l x Wz W2 hx hp ⟨h1, ⟨L, h2, h3, h4, h5⟩, h6, h7, h8, h9⟩
      have hne := (unl_bit lo F G x hx).1 hp
      obtain ⟨k, hk, Hk⟩ : ∃ k, k ≤ x ∧ Hid (dif F G x = k) := ⟨_, dif_le F G x, rfl⟩
      rw [Hk.out] at h1
      obtain ⟨fx, hfx, Hfx⟩ : ∃ fx, fx ≤ 1 ∧ Hid (gb F x = fx) := ⟨_, gb_le F x, rfl⟩
      obtain ⟨gx, hgx, Hgx⟩ : ∃ gx, gx ≤ 1 ∧ Hid (gb G x = gx) := ⟨_, gb_le G x, rfl⟩
      have hA : Hid (∀ q, Calls Tryd.prog 18 #[.slice a0 n c, .int .i64 (x : Int)] (W2.drewN q) fun e w' => e = .returned (.int .i64 (fx : Int)) ∧ w' = W2.drewN q) := fun q => by
        have := refGet_any a0 n c F x (by omega) (by omega) (W2.drewN q) ((HS.out.below h9 (Nat.le_refl _)).drewN q)
        rw [Hfx.out] at this; exact this
      have hBb : Hid (∀ q, Calls Tryd.prog 18 #[.slice a1 m d, .int .i64 (x : Int)] (W2.drewN q) fun e w' => e = .returned (.int .i64 (gx : Int)) ∧ w' = W2.drewN q) := fun q => by
        have := refGet_any a1 m d G x (by omega) (by omega) (W2.drewN q) ((HT.out.below h9 (Nat.le_refl _)).drewN q)
        rw [Hgx.out] at this; exact this
      have dfg : ((fx : Int) == (gx : Int)) = false := by rw [beq_eq_false_iff_ne]; have := Hfx.out; have := Hgx.out; omega
      have dL : decide ((x : Int) ≤ L) = false := by simp; omega
      have dL2 : ¬ (x : Int) ≤ L := by omega
      have fin : Hid (∀ q, Keep (fun b => b = V4.heap.size ∨ b = V4.heap.size + 1) W2 (((W2.drewN q).setCell ⟨V4.heap.size + 1, 0, none⟩ (.int .i64 (x : Int))).setCell ⟨V4.heap.size, 0, none⟩ (.int .i64 ((k : Int) + 1))) ∧ ByI w.heap.size V4.heap.size (.slice a0 n c) (.slice a1 m d) F G w (x + 1) (((W2.drewN q).setCell ⟨V4.heap.size + 1, 0, none⟩ (.int .i64 (x : Int))).setCell ⟨V4.heap.size, 0, none⟩ (.int .i64 ((k : Int) + 1)))) := fun q => by
        refine ⟨(((Keep.refl _ _).drewN q).set (.inr rfl) _).set (.inl rfl) _, ?_, ⟨(x : Int), by omega, by omega, by omega, ((h5.drewN q).set _).other (by omega) _⟩, ((h6.drewN q).other (by omega) _).other (by omega) _, ((h7.drewN q).other (by omega) _).other (by omega) _, ((h8.drewN q).other (by omega) _).other (by omega) _, ((below_drewN h9 q).setCell (p := ⟨V4.heap.size + 1, 0, none⟩) (by simp; omega) _).setCell (p := ⟨V4.heap.size, 0, none⟩) (by simp; omega) _⟩
        rw [dif_yes F G x hne, Hk.out]
        exact ((h1.drewN q).other (by omega) _).set _
      have u0 := h1.1; have u1 := h1.2; have u2 := h5.1; have u3 := h5.2; have u4 := h6.1; have u5 := h7.1
      have ns : V4.heap.size + 1 ≠ V4.heap.size := by omega
      have hx3 : x ≤ 1600 := by omega
      clear h1 h5 h6 h7 h8 h9 hp hne
      gi_wp2
      try (refine ⟨trivial, ?_⟩; gi_wp2)
      refine quiet_round (by kernel_rfl) (by kernel_rfl) (by kernel_rfl) ?_
      repeat (go_big_quiet_step ((first | (go_at_call_of 18 (Value.slice a0 n c); exact Calls.quiet_of_same (hA.out _)) | (go_at_call_of 18 (Value.slice a1 m d); exact Calls.quiet_of_same (hBb.out _)))))
      refine wpQuiet_nil ?_
      intro _ hw'
      obtain ⟨nq2, hw''⟩ := hw'
      subst hw''
      gi_wp2
      exact fin.out nq2
    case done =>
      rintro E W hE ⟨h1, -, h6, h7, h8, h9⟩ hK
      rw [HDD.out] at h1
      obtain ⟨N1, hN1, rN1⟩ : ∃ N1 : Nat, (n : Int) - (lo : Int) = (N1 : Int) ∧ N1 ≤ 200 := ⟨n - lo, by omega, by omega⟩
      obtain ⟨M1, hM1, rM1⟩ : ∃ M1 : Nat, (m : Int) - (lo : Int) = (M1 : Int) ∧ M1 ≤ 200 := ⟨m - lo, by omega, by omega⟩
      have wp1 : IntKind.i64.wrap ((n : Int) - (lo : Int)) = (N1 : Int) := by rw [hN1]; exact wrap_small _ (by omega) (by omega)
      have wp2 : IntKind.i64.wrap ((m : Int) - (lo : Int)) = (M1 : Int) := by rw [hM1]; exact wrap_small _ (by omega) (by omega)
      have wp3 : IntKind.i64.wrap (8 * (N1 : Int)) = 8 * (N1 : Int) := wrap_small _ (by omega) (by omega)
      have wp4 : IntKind.i64.wrap (8 * (M1 : Int)) = 8 * (M1 : Int) := wrap_small _ (by omega) (by omega)
      have wp5 : IntKind.i64.wrap ((D : Int) + 8 * (N1 : Int)) = (D : Int) + 8 * (N1 : Int) := wrap_small _ (by omega) (by omega)
      obtain ⟨R, hR, HR⟩ : ∃ R : Nat, (R : Int) = (D : Int) + 8 * (N1 : Int) + 8 * (M1 : Int) ∧ Hid (8 * (max n m - min n m) + dif F G (8 * min n m) = R) := ⟨_, by rw [hlo, HDD.out]; omega, rfl⟩
      have wp6 : IntKind.i64.wrap ((D : Int) + 8 * (N1 : Int) + 8 * (M1 : Int)) = (R : Int) := by rw [← hR]; exact wrap_small _ (by omega) (by omega)
      have hDi : Hid (∀ q, Calls Tryd.prog 21 #[.slice a0 n c, .slice a1 m d] (W.drewN q) fun e w' => e = .returned (.int .i64 (R : Int)) ∧ ∃ k, w' = (W.drewN q).drewN k) := fun q => by
        have := differ_any a0 n c F a1 m d G (by omega) (by omega) (W.drewN q) ((HS.out.below h9 (Nat.le_refl _)).drewN q) ((HT.out.below h9 (Nat.le_refl _)).drewN q)
        rw [HR.out] at this; exact this
      have e1 : ((D : Int) == (D : Int)) = true := by simp
      have e2 : ((R : Int) == (R : Int)) = true := by simp
      have u0 := h1.1; have u4 := h6.1; have u5 := h7.1; have u6 := h8.1; have u7 := h8.2
      have H8 : Hid (Box W (w.heap.size + 1 + 1) (.bool false)) := h8
      have H9 : Hid (Below w.heap.size w W) := h9
      have HK : Hid (W.heap[E]? = some (.deferred (some []))) := hK
      clear h1 h6 h7 h8 h9 hK hR hN1 hM1
      go_wp2
      obtain ⟨B2, hB2, nb0, nb1, nb2, nb3⟩ : ∃ B2, w.heap.size + 1 + 1 = B2 ∧ B2 ≠ w.heap.size ∧ B2 ≠ w.heap.size + 1 ∧ B2 ≠ V4.heap.size ∧ Hid (w.heap.size + 2 = B2) := ⟨_, rfl, by omega, by omega, by omega, rfl⟩
      have nb4 : w.heap.size ≠ B2 := fun e => nb0 e.symm
      have nb5 : w.heap.size + 1 ≠ B2 := fun e => nb1 e.symm
      have nb6 : V4.heap.size ≠ B2 := fun e => nb2 e.symm
      rw [hB2] at u6 u7 H8 ⊢
      clear hB2
      go_region_held3 (fun w' => w'.cell? ⟨V4.heap.size, 0, none⟩ = some (.int .i64 (D : Int)) ∧ w'.cell? ⟨w.heap.size, 0, none⟩ = some (.slice a0 n c) ∧ w'.cell? ⟨w.heap.size + 1, 0, none⟩ = some (.slice a1 m d)) (go_keep)
        (first | (go_at_call 21; refine (hDi.out 1).mono ?_; rintro e w' ⟨rfl, k, rfl⟩))
      obtain ⟨k1, k2, k3⟩ := leaves (W := W.drewN (1 + k)) (u := .bool true) (H8.out.drewN _) HK.out (by have := nb3.out; omega) (by omega) (by have := nb3.out; omega) (below_drewN H9.out _)
      go_wp2
      refine ⟨by simp, .inl ⟨_, _, rfl, run_takeDeferred k1, ?_⟩⟩
      refine ⟨.bool true, ?_, rfl, k3⟩
      simp [results, Tryd.f4, go_sem, k2]
  · have q1 : decide (0 ≤ i) = false := by simp; omega
    go_wp2
    go_big_quiet ((first | (go_at_call_of 17 (Value.slice a0 n c); exact Calls.quiet_of_same (hGa.out _)) | (go_at_call_of 17 (Value.slice a' n c'); exact Calls.quiet_of_same (hGf.out _)) | (go_at_call 18; exact Calls.quiet_of_same (hRa.out _)) | (go_at_call 19; exact Calls.quiet_of_same (hDf.out _))))
    clear q1 h1
    obtain ⟨V3, hV3, t0, t1, t2, hB3, s3⟩ : ∃ V3, V2.drewN nq = V3 ∧ Box V3 w.heap.size (.slice a0 n c) ∧ Box V3 (w.heap.size + 1) (.slice a1 m d) ∧ Box V3 (w.heap.size + 1 + 1) (.bool false) ∧ Below w.heap.size w V3 ∧ w.heap.size + 3 ≤ V3.heap.size :=
      ⟨_, rfl, z0.drewN nq, z1.drewN nq, z2.drewN nq, below_drewN hB2 nq, s2⟩
    rw [hV3]
    clear hV3 z0 z1 z2 hB2 s2 c0 c1 hGa hRa hGf hDf hg dgg dtt dnn
    have hDd : Hid (∀ k, Calls Tryd.prog 19 #[.slice a0 lo c, .slice a1 lo d] (V3.drewN k) fun e w' => e = .returned (.int .i64 (D : Int)) ∧ w' = V3.drewN k) := fun k => by
      have := refDiffer_any a0 lo c (cut lo F) a1 lo d (cut lo G) (by omega) (by omega) (V3.drewN k) (((HS.out.below hB3 (Nat.le_refl _)).take lo hlo1).drewN k) (((HT.out.below hB3 (Nat.le_refl _)).take lo hlo2).drewN k)
      rw [dif_cut, HDD.out] at this; exact this
    have c0 := t0.1; have c1 := t1.1
    go_wp2
    go_big_quiet ((go_at_call 19; exact Calls.quiet_of_same (hDd.out _)))
    obtain ⟨V4, hV4, r0, r1, r2, hB4, s4⟩ : ∃ V4, V3.drewN nq = V4 ∧ Box V4 w.heap.size (.slice a0 n c) ∧ Box V4 (w.heap.size + 1) (.slice a1 m d) ∧ Box V4 (w.heap.size + 1 + 1) (.bool false) ∧ Below w.heap.size w V4 ∧ w.heap.size + 3 ≤ V4.heap.size :=
      ⟨_, rfl, t0.drewN nq, t1.drewN nq, t2.drewN nq, below_drewN hB3 nq, s3⟩
    rw [hV4]
    clear hV4 t0 t1 t2 hB3 s3 c0 c1 hDd
    have c0 := r0.1; have c1 := r1.1
    have l0 : w.heap.size < V4.heap.size := by omega
    have l1 : w.heap.size + 1 < V4.heap.size := by omega
    have l2 : w.heap.size + 1 + 1 < V4.heap.size := by omega
    go_wp2_with fail
    obtain ⟨V5, hV5⟩ : ∃ V5, (V4.alloc (.cells #[.int .i64 0] 3)).alloc (.cells #[.int .i64 (-1)] 3) = V5 := ⟨_, rfl⟩
    obtain ⟨s5, p0, p1, hS5⟩ := box2 V4 _ _ _ _ V5 hV5
    rw [hV5]
    clear hV5 c0 c1
    have hB5 : Below w.heap.size w V5 := below_stay hB4 hS5 (by omega)
    refine (places_any a0 n c F a1 m d G (by omega) (by omega) V5 (HS.out.below hB5 (Nat.le_refl _)) (HT.out.below hB5 (Nat.le_refl _))).mono ?_
    rintro e V6 ⟨rfl, hB6, hbx, hsl⟩
    rw [hlo] at hbx hsl
    have q0 := p0.below hB6 p0.lt
    have q1 := p1.below hB6 p1.lt
    have q2 := (r0.stayed hS5).below hB6 (r0.stayed hS5).lt
    have q3 := (r1.stayed hS5).below hB6 (r1.stayed hS5).lt
    have q4 := (r2.stayed hS5).below hB6 (r2.stayed hS5).lt
    have hB7 : Below w.heap.size w V6 := hB5.trans (hB6.mono (by omega))
    have hTV : TabW V6 := HTw.out.below hB7 hT0
    have s6 : V4.heap.size + 2 ≤ V6.heap.size := by have := hB6.size; omega
    have hbl := hbx.lt
    rw [s5] at hbx hsl hbl
    clear p0 p1 r0 r1 r2 hS5 hB4 hB5 hB6
    go_wp2_with fail
    refine (wpIn_wide (n := 10)).1 (rangeC rfl (enters_of Tryd.func28 (by kernel_rfl) rfl) (places1_seq (V4.heap.size + 2 + 1) (V4.heap.size + 2) lo lo (unl lo F G) (by omega) V6 hbl (by omega) hbx.1 hsl hTV) (fun _ => rfl)
      (fun b => b = V4.heap.size ∨ b = V4.heap.size + 1) (by rintro b (rfl | rfl) <;> constructor <;> omega) (by rintro b (rfl | rfl) <;> omega)
      (ByI w.heap.size V4.heap.size (.slice a0 n c) (.slice a1 m d) F G w) (fun _ _ _ => False)
      (by rintro x A B ⟨h1, ⟨L, h2, h3, h4, h5⟩, h6, h7, h8, h9⟩ hs; exact ⟨h1.stay hs, ⟨L, h2, h3, h4, h5.stay hs⟩, h6.stay hs, h7.stay hs, h8.stay hs, below_stay h9 hs (by omega)⟩)
      (fun _ _ _ _ h _ => h.elim) ⟨q0, ⟨-1, by omega, by omega, by omega, q1⟩, q2, q3, q4, hB7⟩
      (by rintro x W hx hp ⟨h1, ⟨L, h2, h3, h4, h5⟩, h6, h7, h8, h9⟩
          refine ⟨?_, ⟨L, h2, by omega, h4, h5⟩, h6, h7, h8, h9⟩
          have e : gb F x = gb G x := Classical.byContradiction fun hne => hp ((unl_bit lo F G x hx).2 hne)
          rw [dif_no F G x e]; exact h1) ?round ?done (fun _ _ _ _ _ _ _ h => h.elim))
    case round =>
      rintro l x Wz W2 hx hp ⟨h1, ⟨L, h2, h3, h4, h5⟩, h6, h7, h8, h9⟩
      have hne := (unl_bit lo F G x hx).1 hp
      obtain ⟨k, hk, Hk⟩ : ∃ k, k ≤ x ∧ Hid (dif F G x = k) := ⟨_, dif_le F G x, rfl⟩
      rw [Hk.out] at h1
      obtain ⟨fx, hfx, Hfx⟩ : ∃ fx, fx ≤ 1 ∧ Hid (gb F x = fx) := ⟨_, gb_le F x, rfl⟩
      obtain ⟨gx, hgx, Hgx⟩ : ∃ gx, gx ≤ 1 ∧ Hid (gb G x = gx) := ⟨_, gb_le G x, rfl⟩
      have hA : Hid (∀ q, Calls Tryd.prog 18 #[.slice a0 n c, .int .i64 (x : Int)] (W2.drewN q) fun e w' => e = .returned (.int .i64 (fx : Int)) ∧ w' = W2.drewN q) := fun q => by
        have := refGet_any a0 n c F x (by omega) (by omega) (W2.drewN q) ((HS.out.below h9 (Nat.le_refl _)).drewN q)
        rw [Hfx.out] at this; exact this
      have hBb : Hid (∀ q, Calls Tryd.prog 18 #[.slice a1 m d, .int .i64 (x : Int)] (W2.drewN q) fun e w' => e = .returned (.int .i64 (gx : Int)) ∧ w' = W2.drewN q) := fun q => by
        have := refGet_any a1 m d G x (by omega) (by omega) (W2.drewN q) ((HT.out.below h9 (Nat.le_refl _)).drewN q)
        rw [Hgx.out] at this; exact this
      have dfg : ((fx : Int) == (gx : Int)) = false := by rw [beq_eq_false_iff_ne]; have := Hfx.out; have := Hgx.out; omega
      have dL : decide ((x : Int) ≤ L) = false := by simp; omega
      have dL2 : ¬ (x : Int) ≤ L := by omega
      have fin : Hid (∀ q, Keep (fun b => b = V4.heap.size ∨ b = V4.heap.size + 1) W2 (((W2.drewN q).setCell ⟨V4.heap.size + 1, 0, none⟩ (.int .i64 (x : Int))).setCell ⟨V4.heap.size, 0, none⟩ (.int .i64 ((k : Int) + 1))) ∧ ByI w.heap.size V4.heap.size (.slice a0 n c) (.slice a1 m d) F G w (x + 1) (((W2.drewN q).setCell ⟨V4.heap.size + 1, 0, none⟩ (.int .i64 (x : Int))).setCell ⟨V4.heap.size, 0, none⟩ (.int .i64 ((k : Int) + 1)))) := fun q => by
        refine ⟨(((Keep.refl _ _).drewN q).set (.inr rfl) _).set (.inl rfl) _, ?_, ⟨(x : Int), by omega, by omega, by omega, ((h5.drewN q).set _).other (by omega) _⟩, ((h6.drewN q).other (by omega) _).other (by omega) _, ((h7.drewN q).other (by omega) _).other (by omega) _, ((h8.drewN q).other (by omega) _).other (by omega) _, ((below_drewN h9 q).setCell (p := ⟨V4.heap.size + 1, 0, none⟩) (by simp; omega) _).setCell (p := ⟨V4.heap.size, 0, none⟩) (by simp; omega) _⟩
        rw [dif_yes F G x hne, Hk.out]
        exact ((h1.drewN q).other (by omega) _).set _
      have u0 := h1.1; have u1 := h1.2; have u2 := h5.1; have u3 := h5.2; have u4 := h6.1; have u5 := h7.1
      have ns : V4.heap.size + 1 ≠ V4.heap.size := by omega
      have hx3 : x ≤ 1600 := by omega
      clear h1 h5 h6 h7 h8 h9 hp hne
      gi_wp2
      try (refine ⟨trivial, ?_⟩; gi_wp2)
      refine quiet_round (by kernel_rfl) (by kernel_rfl) (by kernel_rfl) ?_
      repeat (go_big_quiet_step ((first | (go_at_call_of 18 (Value.slice a0 n c); exact Calls.quiet_of_same (hA.out _)) | (go_at_call_of 18 (Value.slice a1 m d); exact Calls.quiet_of_same (hBb.out _)))))
      refine wpQuiet_nil ?_
      intro _ hw'
      obtain ⟨nq2, hw''⟩ := hw'
      subst hw''
      gi_wp2
      exact fin.out nq2
    case done =>
      rintro E W hE ⟨h1, -, h6, h7, h8, h9⟩ hK
      rw [HDD.out] at h1
      obtain ⟨N1, hN1, rN1⟩ : ∃ N1 : Nat, (n : Int) - (lo : Int) = (N1 : Int) ∧ N1 ≤ 200 := ⟨n - lo, by omega, by omega⟩
      obtain ⟨M1, hM1, rM1⟩ : ∃ M1 : Nat, (m : Int) - (lo : Int) = (M1 : Int) ∧ M1 ≤ 200 := ⟨m - lo, by omega, by omega⟩
      have wp1 : IntKind.i64.wrap ((n : Int) - (lo : Int)) = (N1 : Int) := by rw [hN1]; exact wrap_small _ (by omega) (by omega)
      have wp2 : IntKind.i64.wrap ((m : Int) - (lo : Int)) = (M1 : Int) := by rw [hM1]; exact wrap_small _ (by omega) (by omega)
      have wp3 : IntKind.i64.wrap (8 * (N1 : Int)) = 8 * (N1 : Int) := wrap_small _ (by omega) (by omega)
      have wp4 : IntKind.i64.wrap (8 * (M1 : Int)) = 8 * (M1 : Int) := wrap_small _ (by omega) (by omega)
      have wp5 : IntKind.i64.wrap ((D : Int) + 8 * (N1 : Int)) = (D : Int) + 8 * (N1 : Int) := wrap_small _ (by omega) (by omega)
      obtain ⟨R, hR, HR⟩ : ∃ R : Nat, (R : Int) = (D : Int) + 8 * (N1 : Int) + 8 * (M1 : Int) ∧ Hid (8 * (max n m - min n m) + dif F G (8 * min n m) = R) := ⟨_, by rw [hlo, HDD.out]; omega, rfl⟩
      have wp6 : IntKind.i64.wrap ((D : Int) + 8 * (N1 : Int) + 8 * (M1 : Int)) = (R : Int) := by rw [← hR]; exact wrap_small _ (by omega) (by omega)
      have hDi : Hid (∀ q, Calls Tryd.prog 21 #[.slice a0 n c, .slice a1 m d] (W.drewN q) fun e w' => e = .returned (.int .i64 (R : Int)) ∧ ∃ k, w' = (W.drewN q).drewN k) := fun q => by
        have := differ_any a0 n c F a1 m d G (by omega) (by omega) (W.drewN q) ((HS.out.below h9 (Nat.le_refl _)).drewN q) ((HT.out.below h9 (Nat.le_refl _)).drewN q)
        rw [HR.out] at this; exact this
      have e1 : ((D : Int) == (D : Int)) = true := by simp
      have e2 : ((R : Int) == (R : Int)) = true := by simp
      have u0 := h1.1; have u4 := h6.1; have u5 := h7.1; have u6 := h8.1; have u7 := h8.2
      have H8 : Hid (Box W (w.heap.size + 1 + 1) (.bool false)) := h8
      have H9 : Hid (Below w.heap.size w W) := h9
      have HK : Hid (W.heap[E]? = some (.deferred (some []))) := hK
      clear h1 h6 h7 h8 h9 hK hR hN1 hM1
      go_wp2
      obtain ⟨B2, hB2, nb0, nb1, nb2, nb3⟩ : ∃ B2, w.heap.size + 1 + 1 = B2 ∧ B2 ≠ w.heap.size ∧ B2 ≠ w.heap.size + 1 ∧ B2 ≠ V4.heap.size ∧ Hid (w.heap.size + 2 = B2) := ⟨_, rfl, by omega, by omega, by omega, rfl⟩
      have nb4 : w.heap.size ≠ B2 := fun e => nb0 e.symm
      have nb5 : w.heap.size + 1 ≠ B2 := fun e => nb1 e.symm
      have nb6 : V4.heap.size ≠ B2 := fun e => nb2 e.symm
      rw [hB2] at u6 u7 H8 ⊢
      clear hB2
      go_region_held3 (fun w' => w'.cell? ⟨V4.heap.size, 0, none⟩ = some (.int .i64 (D : Int)) ∧ w'.cell? ⟨w.heap.size, 0, none⟩ = some (.slice a0 n c) ∧ w'.cell? ⟨w.heap.size + 1, 0, none⟩ = some (.slice a1 m d)) (go_keep)
        (first | (go_at_call 21; refine (hDi.out 1).mono ?_; rintro e w' ⟨rfl, k, rfl⟩))
      obtain ⟨k1, k2, k3⟩ := leaves (W := W.drewN (1 + k)) (u := .bool true) (H8.out.drewN _) HK.out (by have := nb3.out; omega) (by omega) (by have := nb3.out; omega) (below_drewN H9.out _)
      go_wp2
      refine ⟨by simp, .inl ⟨_, _, rfl, run_takeDeferred k1, ?_⟩⟩
      refine ⟨.bool true, ?_, rfl, k3⟩
      simp [results, Tryd.f4, go_sem, k2]
  · have e8 : i.tdiv 8 = i / 8 := Int.tdiv_eq_ediv_of_nonneg h1
    have q1 : decide (0 ≤ i) = true := by simp [h1]
    have q2 : decide (i / 8 < (n : Int)) = false := by simp; omega
    have q3 : ¬ i / 8 < (n : Int) := by omega
    go_wp2
    go_big_quiet ((first | (go_at_call_of 17 (Value.slice a0 n c); exact Calls.quiet_of_same (hGa.out _)) | (go_at_call_of 17 (Value.slice a' n c'); exact Calls.quiet_of_same (hGf.out _)) | (go_at_call 18; exact Calls.quiet_of_same (hRa.out _)) | (go_at_call 19; exact Calls.quiet_of_same (hDf.out _))))
    clear q1 q2 q3 e8 h1 h2
    obtain ⟨V3, hV3, t0, t1, t2, hB3, s3⟩ : ∃ V3, V2.drewN nq = V3 ∧ Box V3 w.heap.size (.slice a0 n c) ∧ Box V3 (w.heap.size + 1) (.slice a1 m d) ∧ Box V3 (w.heap.size + 1 + 1) (.bool false) ∧ Below w.heap.size w V3 ∧ w.heap.size + 3 ≤ V3.heap.size :=
      ⟨_, rfl, z0.drewN nq, z1.drewN nq, z2.drewN nq, below_drewN hB2 nq, s2⟩
    rw [hV3]
    clear hV3 z0 z1 z2 hB2 s2 c0 c1 hGa hRa hGf hDf hg dgg dtt dnn
    have hDd : Hid (∀ k, Calls Tryd.prog 19 #[.slice a0 lo c, .slice a1 lo d] (V3.drewN k) fun e w' => e = .returned (.int .i64 (D : Int)) ∧ w' = V3.drewN k) := fun k => by
      have := refDiffer_any a0 lo c (cut lo F) a1 lo d (cut lo G) (by omega) (by omega) (V3.drewN k) (((HS.out.below hB3 (Nat.le_refl _)).take lo hlo1).drewN k) (((HT.out.below hB3 (Nat.le_refl _)).take lo hlo2).drewN k)
      rw [dif_cut, HDD.out] at this; exact this
    have c0 := t0.1; have c1 := t1.1
    go_wp2
    go_big_quiet ((go_at_call 19; exact Calls.quiet_of_same (hDd.out _)))
    obtain ⟨V4, hV4, r0, r1, r2, hB4, s4⟩ : ∃ V4, V3.drewN nq = V4 ∧ Box V4 w.heap.size (.slice a0 n c) ∧ Box V4 (w.heap.size + 1) (.slice a1 m d) ∧ Box V4 (w.heap.size + 1 + 1) (.bool false) ∧ Below w.heap.size w V4 ∧ w.heap.size + 3 ≤ V4.heap.size :=
      ⟨_, rfl, t0.drewN nq, t1.drewN nq, t2.drewN nq, below_drewN hB3 nq, s3⟩
    rw [hV4]
    clear hV4 t0 t1 t2 hB3 s3 c0 c1 hDd
    have c0 := r0.1; have c1 := r1.1
    have l0 : w.heap.size < V4.heap.size := by omega
    have l1 : w.heap.size + 1 < V4.heap.size := by omega
    have l2 : w.heap.size + 1 + 1 < V4.heap.size := by omega
    go_wp2_with fail
    obtain ⟨V5, hV5⟩ : ∃ V5, (V4.alloc (.cells #[.int .i64 0] 3)).alloc (.cells #[.int .i64 (-1)] 3) = V5 := ⟨_, rfl⟩
    obtain ⟨s5, p0, p1, hS5⟩ := box2 V4 _ _ _ _ V5 hV5
    rw [hV5]
    clear hV5 c0 c1
    have hB5 : Below w.heap.size w V5 := below_stay hB4 hS5 (by omega)
    refine (places_any a0 n c F a1 m d G (by omega) (by omega) V5 (HS.out.below hB5 (Nat.le_refl _)) (HT.out.below hB5 (Nat.le_refl _))).mono ?_
    rintro e V6 ⟨rfl, hB6, hbx, hsl⟩
    rw [hlo] at hbx hsl
    have q0 := p0.below hB6 p0.lt
    have q1 := p1.below hB6 p1.lt
    have q2 := (r0.stayed hS5).below hB6 (r0.stayed hS5).lt
    have q3 := (r1.stayed hS5).below hB6 (r1.stayed hS5).lt
    have q4 := (r2.stayed hS5).below hB6 (r2.stayed hS5).lt
    have hB7 : Below w.heap.size w V6 := hB5.trans (hB6.mono (by omega))
    have hTV : TabW V6 := HTw.out.below hB7 hT0
    have s6 : V4.heap.size + 2 ≤ V6.heap.size := by have := hB6.size; omega
    have hbl := hbx.lt
    rw [s5] at hbx hsl hbl
    clear p0 p1 r0 r1 r2 hS5 hB4 hB5 hB6
    go_wp2_with fail
    refine (wpIn_wide (n := 10)).1 (rangeC rfl (enters_of Tryd.func28 (by kernel_rfl) rfl) (places1_seq (V4.heap.size + 2 + 1) (V4.heap.size + 2) lo lo (unl lo F G) (by omega) V6 hbl (by omega) hbx.1 hsl hTV) (fun _ => rfl)
      (fun b => b = V4.heap.size ∨ b = V4.heap.size + 1) (by rintro b (rfl | rfl) <;> constructor <;> omega) (by rintro b (rfl | rfl) <;> omega)
      (ByI w.heap.size V4.heap.size (.slice a0 n c) (.slice a1 m d) F G w) (fun _ _ _ => False)
      (by rintro x A B ⟨h1, ⟨L, h2, h3, h4, h5⟩, h6, h7, h8, h9⟩ hs; exact ⟨h1.stay hs, ⟨L, h2, h3, h4, h5.stay hs⟩, h6.stay hs, h7.stay hs, h8.stay hs, below_stay h9 hs (by omega)⟩)
      (fun _ _ _ _ h _ => h.elim) ⟨q0, ⟨-1, by omega, by omega, by omega, q1⟩, q2, q3, q4, hB7⟩
      (by rintro x W hx hp ⟨h1, ⟨L, h2, h3, h4, h5⟩, h6, h7, h8, h9⟩
          refine ⟨?_, ⟨L, h2, by omega, h4, h5⟩, h6, h7, h8, h9⟩
          have e : gb F x = gb G x := Classical.byContradiction fun hne => hp ((unl_bit lo F G x hx).2 hne)
          rw [dif_no F G x e]; exact h1) ?round ?done (fun _ _ _ _ _ _ _ h => h.elim))
    case round =>
      rintro l x Wz W2 hx hp ⟨h1, ⟨L, h2, h3, h4, h5⟩, h6, h7, h8, h9⟩
      have hne := (unl_bit lo F G x hx).1 hp
      obtain ⟨k, hk, Hk⟩ : ∃ k, k ≤ x ∧ Hid (dif F G x = k) := ⟨_, dif_le F G x, rfl⟩
      rw [Hk.out] at h1
      obtain ⟨fx, hfx, Hfx⟩ : ∃ fx, fx ≤ 1 ∧ Hid (gb F x = fx) := ⟨_, gb_le F x, rfl⟩
      obtain ⟨gx, hgx, Hgx⟩ : ∃ gx, gx ≤ 1 ∧ Hid (gb G x = gx) := ⟨_, gb_le G x, rfl⟩
      have hA : Hid (∀ q, Calls Tryd.prog 18 #[.slice a0 n c, .int .i64 (x : Int)] (W2.drewN q) fun e w' => e = .returned (.int .i64 (fx : Int)) ∧ w' = W2.drewN q) := fun q => by
        have := refGet_any a0 n c F x (by omega) (by omega) (W2.drewN q) ((HS.out.below h9 (Nat.le_refl _)).drewN q)
        rw [Hfx.out] at this; exact this
      have hBb : Hid (∀ q, Calls Tryd.prog 18 #[.slice a1 m d, .int .i64 (x : Int)] (W2.drewN q) fun e w' => e = .returned (.int .i64 (gx : Int)) ∧ w' = W2.drewN q) := fun q => by
        have := refGet_any a1 m d G x (by omega) (by omega) (W2.drewN q) ((HT.out.below h9 (Nat.le_refl _)).drewN q)
        rw [Hgx.out] at this; exact this
      have dfg : ((fx : Int) == (gx : Int)) = false := by rw [beq_eq_false_iff_ne]; have := Hfx.out; have := Hgx.out; omega
      have dL : decide ((x : Int) ≤ L) = false := by simp; omega
      have dL2 : ¬ (x : Int) ≤ L := by omega
      have fin : Hid (∀ q, Keep (fun b => b = V4.heap.size ∨ b = V4.heap.size + 1) W2 (((W2.drewN q).setCell ⟨V4.heap.size + 1, 0, none⟩ (.int .i64 (x : Int))).setCell ⟨V4.heap.size, 0, none⟩ (.int .i64 ((k : Int) + 1))) ∧ ByI w.heap.size V4.heap.size (.slice a0 n c) (.slice a1 m d) F G w (x + 1) (((W2.drewN q).setCell ⟨V4.heap.size + 1, 0, none⟩ (.int .i64 (x : Int))).setCell ⟨V4.heap.size, 0, none⟩ (.int .i64 ((k : Int) + 1)))) := fun q => by
        refine ⟨(((Keep.refl _ _).drewN q).set (.inr rfl) _).set (.inl rfl) _, ?_, ⟨(x : Int), by omega, by omega, by omega, ((h5.drewN q).set _).other (by omega) _⟩, ((h6.drewN q).other (by omega) _).other (by omega) _, ((h7.drewN q).other (by omega) _).other (by omega) _, ((h8.drewN q).other (by omega) _).other (by omega) _, ((below_drewN h9 q).setCell (p := ⟨V4.heap.size + 1, 0, none⟩) (by simp; omega) _).setCell (p := ⟨V4.heap.size, 0, none⟩) (by simp; omega) _⟩
        rw [dif_yes F G x hne, Hk.out]
        exact ((h1.drewN q).other (by omega) _).set _
      have u0 := h1.1; have u1 := h1.2; have u2 := h5.1; have u3 := h5.2; have u4 := h6.1; have u5 := h7.1
      have ns : V4.heap.size + 1 ≠ V4.heap.size := by omega
      have hx3 : x ≤ 1600 := by omega
      clear h1 h5 h6 h7 h8 h9 hp hne
      gi_wp2
      try (refine ⟨trivial, ?_⟩; gi_wp2)
      refine quiet_round (by kernel_rfl) (by kernel_rfl) (by kernel_rfl) ?_
      repeat (go_big_quiet_step ((first | (go_at_call_of 18 (Value.slice a0 n c); exact Calls.quiet_of_same (hA.out _)) | (go_at_call_of 18 (Value.slice a1 m d); exact Calls.quiet_of_same (hBb.out _)))))
      refine wpQuiet_nil ?_
      intro _ hw'
      obtain ⟨nq2, hw''⟩ := hw'
      subst hw''
      gi_wp2
      exact fin.out nq2
    case done =>
      rintro E W hE ⟨h1, -, h6, h7, h8, h9⟩ hK
      rw [HDD.out] at h1
      obtain ⟨N1, hN1, rN1⟩ : ∃ N1 : Nat, (n : Int) - (lo : Int) = (N1 : Int) ∧ N1 ≤ 200 := ⟨n - lo, by omega, by omega⟩
      obtain ⟨M1, hM1, rM1⟩ : ∃ M1 : Nat, (m : Int) - (lo : Int) = (M1 : Int) ∧ M1 ≤ 200 := ⟨m - lo, by omega, by omega⟩
      have wp1 : IntKind.i64.wrap ((n : Int) - (lo : Int)) = (N1 : Int) := by rw [hN1]; exact wrap_small _ (by omega) (by omega)
      have wp2 : IntKind.i64.wrap ((m : Int) - (lo : Int)) = (M1 : Int) := by rw [hM1]; exact wrap_small _ (by omega) (by omega)
      have wp3 : IntKind.i64.wrap (8 * (N1 : Int)) = 8 * (N1 : Int) := wrap_small _ (by omega) (by omega)
      have wp4 : IntKind.i64.wrap (8 * (M1 : Int)) = 8 * (M1 : Int) := wrap_small _ (by omega) (by omega)
      have wp5 : IntKind.i64.wrap ((D : Int) + 8 * (N1 : Int)) = (D : Int) + 8 * (N1 : Int) := wrap_small _ (by omega) (by omega)
      obtain ⟨R, hR, HR⟩ : ∃ R : Nat, (R : Int) = (D : Int) + 8 * (N1 : Int) + 8 * (M1 : Int) ∧ Hid (8 * (max n m - min n m) + dif F G (8 * min n m) = R) := ⟨_, by rw [hlo, HDD.out]; omega, rfl⟩
      have wp6 : IntKind.i64.wrap ((D : Int) + 8 * (N1 : Int) + 8 * (M1 : Int)) = (R : Int) := by rw [← hR]; exact wrap_small _ (by omega) (by omega)
      have hDi : Hid (∀ q, Calls Tryd.prog 21 #[.slice a0 n c, .slice a1 m d] (W.drewN q) fun e w' => e = .returned (.int .i64 (R : Int)) ∧ ∃ k, w' = (W.drewN q).drewN k) := fun q => by
        have := differ_any a0 n c F a1 m d G (by omega) (by omega) (W.drewN q) ((HS.out.below h9 (Nat.le_refl _)).drewN q) ((HT.out.below h9 (Nat.le_refl _)).drewN q)
        rw [HR.out] at this; exact this
      have e1 : ((D : Int) == (D : Int)) = true := by simp
      have e2 : ((R : Int) == (R : Int)) = true := by simp
      have u0 := h1.1; have u4 := h6.1; have u5 := h7.1; have u6 := h8.1; have u7 := h8.2
      have H8 : Hid (Box W (w.heap.size + 1 + 1) (.bool false)) := h8
      have H9 : Hid (Below w.heap.size w W) := h9
      have HK : Hid (W.heap[E]? = some (.deferred (some []))) := hK
      clear h1 h6 h7 h8 h9 hK hR hN1 hM1
      go_wp2
      obtain ⟨B2, hB2, nb0, nb1, nb2, nb3⟩ : ∃ B2, w.heap.size + 1 + 1 = B2 ∧ B2 ≠ w.heap.size ∧ B2 ≠ w.heap.size + 1 ∧ B2 ≠ V4.heap.size ∧ Hid (w.heap.size + 2 = B2) := ⟨_, rfl, by omega, by omega, by omega, rfl⟩
      have nb4 : w.heap.size ≠ B2 := fun e => nb0 e.symm
      have nb5 : w.heap.size + 1 ≠ B2 := fun e => nb1 e.symm
      have nb6 : V4.heap.size ≠ B2 := fun e => nb2 e.symm
      rw [hB2] at u6 u7 H8 ⊢
      clear hB2
      go_region_held3 (fun w' => w'.cell? ⟨V4.heap.size, 0, none⟩ = some (.int .i64 (D : Int)) ∧ w'.cell? ⟨w.heap.size, 0, none⟩ = some (.slice a0 n c) ∧ w'.cell? ⟨w.heap.size + 1, 0, none⟩ = some (.slice a1 m d)) (go_keep)
        (first | (go_at_call 21; refine (hDi.out 1).mono ?_; rintro e w' ⟨rfl, k, rfl⟩))
      obtain ⟨k1, k2, k3⟩ := leaves (W := W.drewN (1 + k)) (u := .bool true) (H8.out.drewN _) HK.out (by have := nb3.out; omega) (by omega) (by have := nb3.out; omega) (below_drewN H9.out _)
      go_wp2
      refine ⟨by simp, .inl ⟨_, _, rfl, run_takeDeferred k1, ?_⟩⟩
      refine ⟨.bool true, ?_, rfl, k3⟩
      simp [results, Tryd.f4, go_sem, k2]

set_option maxRecDepth 100000 in
set_option maxHeartbeats 2000000 in
theorem bitBytes_early (a0 : Option Addr) (n c : Nat) (a1 : Option Addr) (m d : Nat) (i : Int) (h : 200 < n ∨ 200 < m) (hn : (n : Int) ≤ 9223372036854775807) (hm : (m : Int) ≤ 9223372036854775807) (w : World) :
    CallsIn Fence.wide 10 Tryd.prog 4 #[.slice a0 n c, .slice a1 m d, .int .i64 i] w fun e w' => e = .returned (.bool true) ∧ Below w.heap.size w w' := by
  refine callsIn_of_wp_marks Tryd.func4 rfl trivial ?_ rfl
  simp only [Tryd.ntmps4, List.size_toArray, List.length_cons, List.length_nil, Nat.reduceAdd, Nat.reduceSub, Array.replicate_succ, Array.replicate_zero, List.push_toArray, List.append_toArray, List.nil_append, List.cons_append]
  refine wpIn_wide.2 ?_
  have HH : Hid (200 < n ∨ 200 < m) := h
  clear h
  go_wp2_with fail
  obtain ⟨V0, hV0⟩ : ∃ V0, ((w.alloc (.cells #[.slice a0 n c] 35)).alloc (.cells #[.slice a1 m d] 35)).alloc (.cells #[.bool false] 4) = V0 := ⟨_, rfl⟩
  obtain ⟨s0, x0, x1, x2, hS0⟩ := box3 w _ _ _ _ _ _ V0 hV0
  rw [hV0]
  clear hV0
  refine (anchor_any _).mono ?_
  rintro e V1 ⟨rfl, hB1⟩
  have y0 := x0.below hB1 x0.lt
  have y1 := x1.below hB1 x1.lt
  have y2 := x2.below hB1 x2.lt
  have hB : Below w.heap.size w V1 := (below_stay (Below.refl _ w) hS0 (Nat.le_refl _)).trans (hB1.mono (by omega))
  have c0 := y0.1; have c1 := y1.1; have c2 := y2.1; have f2 := y2.2
  have hB' := hB.setCell (p := ⟨w.heap.size + 1 + 1, 0, none⟩) (by simp; omega) (.bool true)
  have k2 := (y2.set (.bool true)).1
  clear x0 x1 x2 hS0 hB1 s0 y0 y1 y2
  by_cases h1 : 200 < n
  · have dn : decide (200 < (n : Int)) = true := by simp; omega
    go_wp2
    refine ⟨.bool true, ?_, rfl, hB'⟩
    simp [results, Tryd.f4, go_sem, k2]
  · have dn : decide (200 < (n : Int)) = false := by simp; omega
    have dm : decide (200 < (m : Int)) = true := by have := HH.out; simp; omega
    go_wp2
    refine ⟨.bool true, ?_, rfl, hB'⟩
    simp [results, Tryd.f4, go_sem, k2]

theorem bitBytes_walk (a0 : Option Addr) (n c : Nat) (z0 : List Int) (a1 : Option Addr) (m d : Nat) (z1 : List Int) (i : Int) (w : World) (w0 : IsRow .u8 w a0 n c z0) (w1 : IsRow .u8 w a1 m d z1) (w2 : (Lit.int .i64 i).wf = true) (hT : TabW w) :
    Calls Tryd.prog 4 #[.slice a0 n c, .slice a1 m d, .int .i64 i] w fun e w' => e = .returned (.bool true) ∧ Below w.heap.size w w' := by
  obtain ⟨F, hF, bn, _⟩ := w0.slice
  obtain ⟨G, hG, bm, _⟩ := w1.slice
  have hi := bounds_i64 w2
  refine (callsIn_wide (n := 10)).1 ?_
  by_cases hbig : 200 < n ∨ 200 < m
  · exact bitBytes_early a0 n c a1 m d i hbig bn bm w
  · by_cases hin : 0 ≤ i ∧ i < 8 * n
    · obtain ⟨k, rfl⟩ := Int.eq_ofNat_of_zero_le hin.1
      have hk : k < 8 * n := by omega
      have hg := gb_flp F k k
      rw [if_pos rfl] at hg
      have hl := gb_le F k
      refine bitBytes_core a0 n c F a1 m d G k (flp F k) (by omega) (by omega) w hF hG hT true (gb F k) (gb (flp F k) k) (gb_le _ _) (gb_le _ _) (by rw [bne_iff_ne]; omega) (by rw [dif_flip, if_pos hk]; rfl) (.inl ⟨rfl, by omega, by omega⟩) hi.2
        (fun w h => flip_yes a0 n c F k hk (by omega) w h) (fun w h => get_yes a0 n c F k hk (by omega) w h) (fun w h => refGet_any a0 n c F k (by omega) (by omega) w h) (fun w a' c' h => get_yes a' n c' (flp F k) k hk (by omega) w h)
    · have hout : i < 0 ∨ 8 * n ≤ i := by omega
      refine bitBytes_core a0 n c F a1 m d G i F (by omega) (by omega) w hF hG hT false 0 0 (by omega) (by omega) (by simp) (by rw [dif_same]; rfl) ?_ hi.2
        (fun w h => flip_no a0 n c F i hout hi.2 (by omega) w h) (fun w _ => get_no a0 n c i hout hi.2 (by omega) w) (fun w _ => refGet_no a0 n c i hout hi.2 (by omega) w) (fun w a' c' _ => get_no a' n c' i hout hi.2 (by omega) w)
      rcases hout with h | h
      · exact .inr (.inl ⟨rfl, h⟩)
      · exact .inr (.inr ⟨rfl, by omega, h⟩)
end Go.Proofs.YtfjhaihingmnoaaDoor
