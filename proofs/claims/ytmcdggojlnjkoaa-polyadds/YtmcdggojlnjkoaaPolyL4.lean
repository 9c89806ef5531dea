/-
  The walks of the laws PolyValues and PolyAdds.
-/
import Derived.Test.YtmcdggojlnjkoaaPolyL3
namespace Go.Proofs.Ytmcdggojlnjkoaa
open Go.RowKit Go.Deep
open Gf (eI lI gI dI pI)
open Po (toE cf mu S pwr ev cv Low rts lin one)

theorem left_ev {p R : Nat → Po.El} {n : Nat} (hp : Low n p) (X : Po.El) (hL : Left p (lin X) 1 R) : ev n p X = R 0 := by
  obtain ⟨hlo, T, M, hT, h⟩ := hL
  have e1 : ev n p X = ev (n + (M + 2)) p X := (Po.ev_more hp (by omega) X).symm
  have e2 : ev (n + (M + 2)) p X = ev (n + (M + 2)) (fun j => cv T (lin X) j ^^^ R j) X := by
    congr 1; exact funext h
  have e3 : ev (n + (M + 2)) (cv T (lin X)) X = 0 := by
    have hl := Po.cv_low hT (Po.lin_low X)
    rw [Po.ev_more (hl.mono (by omega : M + 2 - 1 ≤ M + 2)) (by omega), Po.ev_cv hT (Po.lin_low X), Po.ev_lin, Po.xor_self', Po.mu_zero]
  have e4 : ev (n + (M + 2)) R X = R 0 := by
    rw [Po.ev_more hlo (by omega)]
    show 0 ^^^ mu (R 0) 1 = R 0
    rw [Po.mu_one, Po.z0]
  rw [e1, e2, Po.ev_xor, e3, e4, Po.z0]
theorem ev_shift {p : Nat → Po.El} {n : Nat} (hp : Low n p) (K : Nat) (X : Po.El) : ev (n + (K + 1)) (fun j => if K ≤ j then p (j - K) else 0) X = mu (ev n p X) (pwr X K) := by
  have e : (fun j => if K ≤ j then p (j - K) else 0) = cv p (mono 1 K) := funext (fun j => by
    rw [Po.cv_comm, cv_mono]
    by_cases h : K ≤ j
    · rw [if_pos h, if_pos h, Po.one_mu]
    · rw [if_neg h, if_neg h])
  rw [e, Po.ev_cv hp (mono_low 1 K)]
  congr 1
  have := Po.S_one (K + 1) K (fun i => mu (mono 1 K i) (pwr X i)) (by omega) (fun i hi hne => by show mu (mono 1 K i) _ = 0; unfold mono; rw [if_neg hne, Po.zero_mu])
  refine this.trans ?_
  unfold mono
  rw [if_pos rfl, Po.one_mu]

set_option maxRecDepth 100000 in
set_option maxHeartbeats 2000000 in
theorem polyValues_walk (a0 : Option Addr) (len0 cap0 : Nat) (z0 : List Int) (a1 : Option Addr) (len1 cap1 : Nat) (z1 : List Int) (a2 : Int) (a3 : Int) (a4 : Int) (w : World) (w0 : IsRow .u8 w a0 len0 cap0 z0) (w1 : IsRow .u8 w a1 len1 cap1 z1) (w2 : (Lit.int .u8 a2).wf = true) (w3 : (Lit.int .u8 a3).wf = true) (_w4 : (Lit.int .i64 a4).wf = true) :
    Calls Try.prog 8 #[.slice a0 len0 cap0, .slice a1 len1 cap1, .int .u8 a2, .int .u8 a3, .int .i64 a4] w fun e w' => e = .returned (.bool true) ∧ Below w.heap.size w w' := by
  obtain ⟨P, hmax0⟩ := w0.arg
  obtain ⟨p, hz0⟩ : ∃ r, r = z0.take len0 := ⟨_, rfl⟩
  rw [← hz0] at P
  obtain ⟨Q, hmax1⟩ := w1.arg
  obtain ⟨q, hz1⟩ : ∃ r, r = z1.take len1 := ⟨_, rfl⟩
  rw [← hz1] at Q
  have ha' := bounds_u8 w2
  have hx' := bounds_u8 w3
  have ha : 0 ≤ a2 ∧ a2 < 256 := by omega
  have hx : 0 ≤ a3 ∧ a3 < 256 := by omega
  clear w0 w1 w2 w3 hz0 hz1 ha' hx' _w4
  have hf := fldAt_new w 52
  have hB0 := lit_below w fieldCells 52
  by_cases hcase : 60 < len0
  · go_enter Try.func8, Try.ntmps8
    go_wp2_with (first | (go_at_call 9; refine (new_any _).mono ?_; rintro e w' ⟨rfl, rfl⟩) | (go_at_call 10; refine (anchor2_any _ _ hf).mono ?_; rintro e W1 ⟨rfl, hB1⟩))
    go_ret
    exact ⟨rfl, bnext hB0 hB1⟩
  have hl0 : len0 ≤ 60 := by omega
  clear hcase
  by_cases hcase : 60 < len1
  · go_enter Try.func8, Try.ntmps8
    go_wp2_with (first | (go_at_call 9; refine (new_any _).mono ?_; rintro e w' ⟨rfl, rfl⟩) | (go_at_call 10; refine (anchor2_any _ _ hf).mono ?_; rintro e W1 ⟨rfl, hB1⟩))
    go_ret
    exact ⟨rfl, bnext hB0 hB1⟩
  have hl1 : len1 ≤ 60 := by omega
  clear hcase
  by_cases hcase : a4 < 0
  · go_enter Try.func8, Try.ntmps8
    go_wp2_with (first | (go_at_call 9; refine (new_any _).mono ?_; rintro e w' ⟨rfl, rfl⟩) | (go_at_call 10; refine (anchor2_any _ _ hf).mono ?_; rintro e W1 ⟨rfl, hB1⟩))
    go_ret
    exact ⟨rfl, bnext hB0 hB1⟩
  have hn0 : 0 ≤ a4 := by omega
  clear hcase
  by_cases hcase : 60 < a4
  · go_enter Try.func8, Try.ntmps8
    go_wp2_with (first | (go_at_call 9; refine (new_any _).mono ?_; rintro e w' ⟨rfl, rfl⟩) | (go_at_call 10; refine (anchor2_any _ _ hf).mono ?_; rintro e W1 ⟨rfl, hB1⟩))
    go_ret
    exact ⟨rfl, bnext hB0 hB1⟩
  have hn1 : a4 ≤ 60 := by omega
  clear hcase
  go_enter Try.func8, Try.ntmps8
  go_wp2_with (first | (go_at_call 9; refine (new_any _).mono ?_; rintro e w' ⟨rfl, rfl⟩) | (go_at_call 10; refine (anchor2_any _ _ hf).mono ?_; rintro e W1 ⟨rfl, hB1⟩))
  replace hf := hf.below hB1
  have hBB := bnext hB0 hB1
  replace P := P.below hBB
  replace Q := Q.below hBB
  clear hB1 hB0
  obtain ⟨V, hV, HV⟩ : ∃ V, (0 ≤ V ∧ V < 256) ∧ Hid (ofE (ev len0 (cf p) (toE a3)) = V) := ⟨_, ofE_bd _, rfl⟩
  obtain ⟨U, hU, HU⟩ : ∃ V, (0 ≤ V ∧ V < 256) ∧ Hid (ofE (ev len1 (cf q) (toE a3)) = V) := ⟨_, ofE_bd _, rfl⟩
  obtain ⟨K, hK, HK⟩ : ∃ K, K ≤ 60 ∧ Hid (a4.toNat = K) := ⟨_, by omega, rfl⟩
  refine (refEval_arg _ _ _ p a3 V W1 P (by omega) hx HV).mono ?_
  rintro e w' ⟨rfl, rfl⟩
  have hBl := lit_below w' ([a3, 1].map (Value.int .u8)).toArray 5
  have X := arg_lit w' [a3, 1] (byt_two a3 1 hx (by decide))
  have ht2 : Hid (tl [a3, 1] = 1 + 1) := tl_of_cf [a3, 1] (byt_two a3 1 hx (by decide)) 2 (fun _ => by rw [cf_lin]; show (1 : Po.El) ≠ 0; decide) (fun i hi => by rw [cf_lin]; exact Po.lin_low _ i hi)
  have KM := mod_any _ _ _ _ p _ _ _ [a3, 1] 1 _ (hf.below hBl) (P.below hBl) X (by omega) (by simp) ht2
  simp only [List.map_cons, List.map_nil, List.length_cons, List.length_nil, Nat.zero_add] at KM hBl
  clear X
  go_wp2_with (go_at_call 25; refine KM.mono ?_; rintro e W2 ⟨a5, n5, c5, l5, rfl, A5, ht5, hn5, hL5, hB2⟩)
  have hB := bnext hBl hB2
  replace hf := hf.below hB
  replace P := P.below hB
  replace Q := Q.below hB
  replace hBB := bnext hBB hB
  clear hB hB2 hBl KM
  have HV5 : Hid (ofE (cf l5 0) = V) := by
    show _ = _
    have e : cf [a3, 1] = lin (toE a3) := funext (cf_lin a3)
    rw [e] at hL5
    rw [← HV.out, left_ev (cf_lowA P) _ hL5]
  clear hL5 ht5
  refine (add_any _ _ _ p _ _ _ q W2 P Q (by omega) (by omega)).mono ?_
  rintro e W6 ⟨⟨a6, n6, c6, l6, rfl, A6, ht6, hl6, hn6⟩, hB⟩
  replace hf := hf.below hB
  replace P := P.below hB
  replace Q := Q.below hB
  replace A5 := A5.below hB
  replace hBB := bnext hBB hB
  clear hB
  have HL6 : Hid (∀ i, cf l6 i = cf p i ^^^ cf q i) := hl6
  have HT6 : Hid (tl l6 = n6) := ht6
  clear hl6 ht6
  have hn6 : n6 ≤ 60 := by omega
  have HE6 : Hid (ofE (ev n6 (cf l6) (toE a3)) = bits .xor .u8 V U) := by
    show _ = _
    rw [← HV.out, ← HU.out, xor_ofE]
    congr 1
    have e1 : ev len0 (cf p) (toE a3) = ev 60 (cf p) (toE a3) := (Po.ev_more (cf_lowA P) hl0 _).symm
    have e2 : ev len1 (cf q) (toE a3) = ev 60 (cf q) (toE a3) := (Po.ev_more (cf_lowA Q) hl1 _).symm
    rw [e1, e2, ← Po.ev_xor, ← Po.ev_more (cf_lowA A6) hn6]
    exact congrArg (fun f => ev 60 f (toE a3)) (funext HL6.out)
  have hxb := Gf.xor8_bd V U hV.1 hV.2 hU.1 hU.2
  go_wp2_with fail
  refine (eval_arg _ _ _ _ l6 a3 (bits .xor .u8 V U) W6 hf A6 (by omega) hx HE6).mono ?_
  rintro e W7 ⟨rfl, HL⟩
  have hB := below_like HL
  replace hf := hf.below hB
  replace P := P.below hB
  replace Q := Q.below hB
  replace A5 := A5.below hB
  replace hBB := bnext hBB hB
  clear hB HL
  clear A6 HL6 HT6 HE6
  go_wp2_with (go_at_call 24; refine (refEval_arg _ _ _ q a3 U W7 Q (by omega) hx HU).mono ?_; rintro e w8 ⟨rfl, rfl⟩)
  refine (scale_any _ _ _ _ p a2 w8 hf P (by omega) ha).mono ?_
  rintro e W9 ⟨⟨a9, n9, c9, l9, rfl, A9, ht9, hl9, hn9⟩, hB⟩
  replace hf := hf.below hB
  replace P := P.below hB
  replace Q := Q.below hB
  replace A5 := A5.below hB
  replace hBB := bnext hBB hB
  clear hB
  have HL9 : Hid (∀ i, cf l9 i = mu (cf p i) (toE a2)) := hl9
  have HT9 : Hid (tl l9 = n9) := ht9
  clear hl9 ht9
  have HE9 : Hid (ofE (ev n9 (cf l9) (toE a3)) = gI V a2) := by
    show _ = _
    have t := gI_ofE (ev len0 (cf p) (toE a3)) (toE a2)
    rw [ofE_toE a2 ha.1 ha.2] at t
    rw [← HV.out, t, ← Po.ev_scale, ← Po.ev_more (cf_lowA A9) hn9]
    exact congrArg (fun f => ofE (ev len0 f (toE a3))) (funext HL9.out)
  go_wp2_with fail
  refine (eval_arg _ _ _ _ l9 a3 (gI V a2) W9 hf A9 (by omega) hx HE9).mono ?_
  rintro e W10 ⟨rfl, HL⟩
  have hB := below_like HL
  replace hf := hf.below hB
  replace P := P.below hB
  replace Q := Q.below hB
  replace A5 := A5.below hB
  replace hBB := bnext hBB hB
  clear hB HL
  clear A9 HL9 HT9 HE9
  go_wp2_with (go_at_call 16; refine (refMul_any _ _ (by omega) (by omega) (by omega) (by omega) _).mono ?_; rintro e w11 ⟨rfl, rfl⟩)
  refine (shift_any _ _ _ p a4 K w11 P (by omega) (by omega) HK).mono ?_
  rintro e W12 ⟨⟨a12, n12, c12, l12, rfl, A12, ht12, hl12, hn12⟩, hB⟩
  replace hf := hf.below hB
  replace P := P.below hB
  replace Q := Q.below hB
  replace A5 := A5.below hB
  replace hBB := bnext hBB hB
  clear hB
  have HL12 : Hid (∀ i, cf l12 i = if K ≤ i then cf p (i - K) else 0) := hl12
  have HT12 : Hid (tl l12 = n12) := ht12
  clear hl12 ht12
  have hpb := Gf.pI_bd a3 a4
  have HE12 : Hid (ofE (ev n12 (cf l12) (toE a3)) = gI V (pI a3 a4)) := by
    show _ = _
    have e4 : a4 = ((K : Nat) : Int) := by have := HK.out; omega
    have ep : pI a3 a4 = ofE (pwr (toE a3) K) := by rw [← Po.toE_pI a3 hx.1 hx.2 K, e4, ofE_toE _ (Gf.pI_bd a3 K).1 (Gf.pI_bd a3 K).2]
    rw [← HV.out, ep, gI_ofE, ← ev_shift (cf_lowA P), ← Po.ev_more (cf_lowA A12) (by omega : n12 ≤ len0 + (K + 1))]
    exact congrArg (fun f => ofE (ev (len0 + (K + 1)) f (toE a3))) (funext HL12.out)
  go_wp2_with fail
  refine (eval_arg _ _ _ _ l12 a3 (gI V (pI a3 a4)) W12 hf A12 (by omega) hx HE12).mono ?_
  rintro e W13 ⟨rfl, HL⟩
  have hB := below_like HL
  replace hf := hf.below hB
  replace P := P.below hB
  replace Q := Q.below hB
  replace A5 := A5.below hB
  replace hBB := bnext hBB hB
  clear hB HL
  clear A12 HL12 HT12 HE12
  have hn5I : (n5 : Int) ≤ 1 := by omega
  go_wp2_with (first | (go_at_call 27; refine (refPow_any a3 a4 hx.1 hx.2 hn0 (by omega) _).mono ?_; rintro e w14 ⟨rfl, rfl⟩) | (go_at_call 16; refine (refMul_any _ _ (by omega) (by omega) (by omega) (by omega) _).mono ?_; rintro e w15 ⟨rfl, rfl⟩) | (go_at_call 15; refine (at_arg a5 n5 c5 l5 0 0 V _ (by exact A5) (by omega) rfl HV5).mono ?_; rintro e w16 ⟨rfl, rfl⟩))
  go_ret
  exact ⟨rfl, hBB⟩

set_option maxRecDepth 100000 in
set_option maxHeartbeats 2000000 in
theorem polyAdds_walk (a0 : Option Addr) (len0 cap0 : Nat) (z0 : List Int) (a1 : Option Addr) (len1 cap1 : Nat) (z1 : List Int) (a2 : Int) (a3 : Int) (w : World) (w0 : IsRow .u8 w a0 len0 cap0 z0) (w1 : IsRow .u8 w a1 len1 cap1 z1) (w2 : (Lit.int .u8 a2).wf = true) (_w3 : (Lit.int .i64 a3).wf = true) :
    Calls Try.prog 3 #[.slice a0 len0 cap0, .slice a1 len1 cap1, .int .u8 a2, .int .i64 a3] w fun e w' => e = .returned (.bool true) ∧ Below w.heap.size w w' := by
  obtain ⟨P, hmax0⟩ := w0.arg
  obtain ⟨p, hz0⟩ : ∃ r, r = z0.take len0 := ⟨_, rfl⟩
  rw [← hz0] at P
  obtain ⟨Q, hmax1⟩ := w1.arg
  obtain ⟨q, hz1⟩ : ∃ r, r = z1.take len1 := ⟨_, rfl⟩
  rw [← hz1] at Q
  have ha' := bounds_u8 w2
  have ha : 0 ≤ a2 ∧ a2 < 256 := by omega
  clear w0 w1 w2 hz0 hz1 ha' _w3
  have hf := fldAt_new w 52
  have hB0 := lit_below w fieldCells 52
  by_cases hcase : 300 < len0
  · go_enter Try.func3, Try.ntmps3
    go_wp2_with (first | (go_at_call 9; refine (new_any _).mono ?_; rintro e w' ⟨rfl, rfl⟩) | (go_at_call 10; refine (anchor2_any _ _ hf).mono ?_; rintro e W1 ⟨rfl, hB1⟩))
    go_ret
    exact ⟨rfl, bnext hB0 hB1⟩
  have hl0 : len0 ≤ 300 := by omega
  clear hcase
  by_cases hcase : 300 < len1
  · go_enter Try.func3, Try.ntmps3
    go_wp2_with (first | (go_at_call 9; refine (new_any _).mono ?_; rintro e w' ⟨rfl, rfl⟩) | (go_at_call 10; refine (anchor2_any _ _ hf).mono ?_; rintro e W1 ⟨rfl, hB1⟩))
    go_ret
    exact ⟨rfl, bnext hB0 hB1⟩
  have hl1 : len1 ≤ 300 := by omega
  clear hcase
  by_cases hcase : 300 < a3
  · go_enter Try.func3, Try.ntmps3
    go_wp2_with (first | (go_at_call 9; refine (new_any _).mono ?_; rintro e w' ⟨rfl, rfl⟩) | (go_at_call 10; refine (anchor2_any _ _ hf).mono ?_; rintro e W1 ⟨rfl, hB1⟩))
    go_ret
    exact ⟨rfl, bnext hB0 hB1⟩
  have hn1 : a3 ≤ 300 := by omega
  clear hcase
  obtain ⟨K, hK, HK⟩ : ∃ K, K ≤ 300 ∧ Hid (a3.toNat = K) := ⟨_, by omega, rfl⟩
  obtain ⟨N, hN, hN0, hN1, HN⟩ : ∃ N, N ≤ 300 ∧ len0 ≤ N ∧ len1 ≤ N ∧ Hid (max len0 len1 = N) := ⟨_, by omega, by omega, by omega, rfl⟩
  have hmx := run_maxN (P := Try.prog) len0 len1 N HN.out
  have hmi := run_maxI (P := Try.prog) a3 K HK.out
  go_enter Try.func3, Try.ntmps3
  go_wp2_with (first | (go_at_call 9; refine (new_any _).mono ?_; rintro e w' ⟨rfl, rfl⟩) | (go_at_call 10; refine (anchor2_any _ _ hf).mono ?_; rintro e W1 ⟨rfl, hB1⟩))
  replace hf := hf.below hB1
  have hBB := bnext hB0 hB1
  replace P := P.below hBB
  replace Q := Q.below hBB
  clear hB1 hB0
  refine (add_any _ _ _ p _ _ _ q W1 P Q (by omega) (by omega)).mono ?_
  rintro e W5 ⟨⟨a5, n5, c5, l5, rfl, A5, ht5, hl5, hn5⟩, hB⟩
  replace hf := hf.below hB
  replace P := P.below hB
  replace Q := Q.below hB
  replace hBB := bnext hBB hB
  clear hB
  have HL5 : Hid (∀ i, cf l5 i = cf p i ^^^ cf q i) := hl5
  have HT5 : Hid (tl l5 = n5) := ht5
  clear hl5 ht5
  rw [HN.out] at hn5
  go_wp2_with fail
  refine (scale_any _ _ _ _ p a2 W5 hf P (by omega) ha).mono ?_
  rintro e W6 ⟨⟨a6, n6, c6, l6, rfl, A6, ht6, hl6, hn6⟩, hB⟩
  replace hf := hf.below hB
  replace P := P.below hB
  replace Q := Q.below hB
  replace A5 := A5.below hB
  replace hBB := bnext hBB hB
  clear hB
  have HL6 : Hid (∀ i, cf l6 i = mu (cf p i) (toE a2)) := hl6
  have HT6 : Hid (tl l6 = n6) := ht6
  clear hl6 ht6
  go_wp2_with fail
  refine (shift_any _ _ _ p a3 K W6 P (by omega) (by omega) HK).mono ?_
  rintro e W7 ⟨⟨a7, n7, c7, l7, rfl, A7, ht7, hl7, hn7⟩, hB⟩
  replace hf := hf.below hB
  replace P := P.below hB
  replace Q := Q.below hB
  replace A5 := A5.below hB
  replace A6 := A6.below hB
  replace hBB := bnext hBB hB
  clear hB
  have HL7 : Hid (∀ i, cf l7 i = if K ≤ i then cf p (i - K) else 0) := hl7
  have HT7 : Hid (tl l7 = n7) := ht7
  clear hl7 ht7
  go_wp2_with fail
  refine (trim_arg _ _ _ p W7 P (by omega)).mono ?_
  rintro e W8 ⟨⟨a8, n8, c8, l8, rfl, A8, ht8, hl8, hn8⟩, hB⟩
  replace hf := hf.below hB
  replace P := P.below hB
  replace Q := Q.below hB
  replace A5 := A5.below hB
  replace A6 := A6.below hB
  replace A7 := A7.below hB
  replace hBB := bnext hBB hB
  clear hB
  have HL8 : Hid (∀ i, cf l8 i = cf p i) := hl8
  have HT8 : Hid (tl l8 = n8) := ht8
  clear hl8 ht8
  have hn5I : (n5 : Int) ≤ (N : Int) := by omega
  have hn6I : (n6 : Int) ≤ (len0 : Int) := by omega
  have hn7I : (n7 : Int) ≤ (len0 : Int) + (K : Int) := by omega
  go_wp2
  go_loop [53] (fun i => ∃ k : Nat, k ≤ N ∧ i = .int .i64 (k : Int)) (fun i => N - (intOf i).toNat)
  case atStart => exact ⟨0, by omega, rfl⟩
  case round =>
    obtain ⟨k, hk, rfl⟩ := hrel
    by_cases hlt : k < N
    · obtain ⟨X, hX, HX⟩ : ∃ V, (0 ≤ V ∧ V < 256) ∧ Hid (ofE (cf p k) = V) := ⟨_, ofE_bd _, rfl⟩
      obtain ⟨Y, hY, HY⟩ : ∃ V, (0 ≤ V ∧ V < 256) ∧ Hid (ofE (cf q k) = V) := ⟨_, ofE_bd _, rfl⟩
      have HS : Hid (ofE (cf l5 k) = bits .xor .u8 X Y) := by show _ = _; rw [← HX.out, ← HY.out, xor_ofE, HL5.out]
      have HC : Hid (ofE (cf l6 k) = gI X a2) := by
        show _ = _
        have ea : ofE (toE a2) = a2 := ofE_toE a2 ha.1 ha.2
        have := gI_ofE (cf p k) (toE a2)
        rw [ea] at this
        rw [← HX.out, HL6.out, this]
      have HF : Hid (ofE (cf l7 (k + K)) = X) := by
        show _ = _
        rw [← HX.out, HL7.out, if_pos (by omega), show k + K - K = k from by omega]
      have f1 : (bits .xor .u8 X Y != bits .xor .u8 X Y) = false := by simp
      have f2 : (gI X a2 != gI X a2) = false := by simp
      have f3 : (X != X) = false := by simp
      go_wp2_with (first | (go_at_call_of 15 (Value.slice a0 len0 cap0); refine (at_arg a0 len0 cap0 p k k X _ (by exact P) (by omega) rfl HX).mono ?_; rintro e w' ⟨rfl, rfl⟩) | (go_at_call_of 15 (Value.slice a1 len1 cap1); refine (at_arg a1 len1 cap1 q k k Y _ (by exact Q) (by omega) rfl HY).mono ?_; rintro e w' ⟨rfl, rfl⟩) | (go_at_call_of 15 (Value.slice a5 n5 c5); refine (at_arg a5 n5 c5 l5 k k _ _ (by exact A5) (by omega) rfl HS).mono ?_; rintro e w' ⟨rfl, rfl⟩) | (go_at_call_of 15 (Value.slice a6 n6 c6); refine (at_arg a6 n6 c6 l6 k k _ _ (by exact A6) (by omega) rfl HC).mono ?_; rintro e w' ⟨rfl, rfl⟩) | (go_at_call_of 15 (Value.slice a7 n7 c7); refine (at_arg a7 n7 c7 l7 _ (k + K) X _ (by exact A7) (by omega) (by omega) HF).mono ?_; rintro e w' ⟨rfl, rfl⟩) | (go_at_call 16; refine (refMul_any _ _ (by omega) (by omega) (by omega) (by omega) _).mono ?_; rintro e w15 ⟨rfl, rfl⟩))
      go_round
      case rel => exact ⟨k + 1, by omega, by go_num⟩
      case measure => simp [intOf]; omega
    · go_wp2
      go_loop [88] (fun i => ∃ j : Nat, j ≤ K ∧ i = .int .i64 (j : Int)) (fun i => K - (intOf i).toNat)
      case atStart => exact ⟨0, by omega, rfl⟩
      case round =>
        obtain ⟨j, hj, rfl⟩ := hrel
        by_cases hlj : j < K
        · have HF : Hid (ofE (cf l7 j) = 0) := by
            show _ = _
            rw [HL7.out, if_neg (by omega)]; rfl
          go_wp2_with (go_at_call_of 15 (Value.slice a7 n7 c7); refine (at_arg a7 n7 c7 l7 j j 0 _ (by exact A7) (by omega) rfl HF).mono ?_; rintro e w' ⟨rfl, rfl⟩)
          go_round
          case rel => exact ⟨j + 1, by omega, by go_num⟩
          case measure => simp [intOf]; omega
        · obtain ⟨mp, Hmp⟩ : ∃ m, Hid (tl p = m) := ⟨_, rfl⟩
          go_wp2_with (first | (go_at_call 17; refine (degree_arg _ _ _ mp p ((mp : Int) - 1) _ (by exact P) (by omega) Hmp rfl).mono ?_; rintro e w6 ⟨rfl, rfl⟩) | (go_at_call 18; refine (refDegree_arg _ _ _ mp p ((mp : Int) - 1) _ (by exact P) (by omega) Hmp rfl).mono ?_; rintro e w6 ⟨rfl, rfl⟩) | (go_at_call 19; refine (same_arg _ _ _ l8 _ _ _ p _ (by exact A8) (by exact P) (by omega) (by omega) HL8.out).mono ?_; rintro e w6 ⟨rfl, rfl⟩) | (go_at_call_of 20 (Value.slice a8 n8 c8); refine (lawTrimmed_arg _ _ _ l8 _ (by exact A8) (by omega) HT8.out).mono ?_; rintro e w6 ⟨rfl, rfl⟩) | (go_at_call_of 20 (Value.slice a5 n5 c5); refine (lawTrimmed_arg _ _ _ l5 _ (by exact A5) (by omega) HT5.out).mono ?_; rintro e w6 ⟨rfl, rfl⟩) | (go_at_call_of 20 (Value.slice a6 n6 c6); refine (lawTrimmed_arg _ _ _ l6 _ (by exact A6) (by omega) HT6.out).mono ?_; rintro e w6 ⟨rfl, rfl⟩) | (go_at_call_of 20 (Value.slice a7 n7 c7); refine (lawTrimmed_arg _ _ _ l7 _ (by exact A7) (by omega) HT7.out).mono ?_; rintro e w6 ⟨rfl, rfl⟩))
          go_ret
          exact ⟨rfl, hBB⟩

end Go.Proofs.Ytmcdggojlnjkoaa
