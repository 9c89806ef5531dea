/-
  The walks of the laws PolyMods and PolyRing.
-/
import Derived.Test.YtmcdggojlnjkoaaPolyL2
namespace Go.Proofs.Ytmcdggojlnjkoaa
open Go.RowKit Go.Deep
open Gf (eI lI gI dI pI)
open Po (toE cf mu S pwr ev cv Low rts lin one)

theorem trim_arg (a : Option Addr) (n c : Nat) (l : List Int) (w : World) (A : Arg w a n c l) (hn : n ≤ 4000) :
    Calls Try.prog 14 #[.slice a n c] w fun e w' => IsP w' e (cf l) n ∧ Below w.heap.size w w' := by
  refine (trim_any a n c l w A hn).mono ?_
  rintro e w' ⟨a', c', rfl, hB, hc, hnil, hrow⟩
  have htn : tl l ≤ n := by have := tl_le l; rwa [A.len] at this
  by_cases h0 : 0 < tl l
  · obtain ⟨g, rfl, hg, row⟩ := hrow h0
    exact ⟨isP_row row hc (fun h => cf_top_tl l A.byt h) (cf_low_tl l A.byt) _ (fun _ => rfl) _ htn, hB⟩
  · have e0 : tl l = 0 := by omega
    refine ⟨⟨a', _, c', [], rfl, ⟨e0.symm, .inl rfl, fun i hi => by simp at hi, hc, hnil⟩, e0.symm, fun i => ?_, htn⟩, hB⟩
    rw [cf_low_tl l A.byt i (by omega)]; rfl
theorem run_minN {P : Program} (a b N : Nat) (h : min a b = N) (ts : Array TypeId) (t : TypeId) (w : World) : (Builtin.min_ ts t #[.int .i64 (a : Int), .int .i64 (b : Int)]).run P w = .ok (.int .i64 (N : Int)) w := by
  have e : (if (b : Int) < (a : Int) then (b : Int) else a) = (N : Int) := by split <;> omega
  rw [← e]
  simp [Builtin.min_, Builtin.min2]

set_option maxRecDepth 100000 in
set_option maxHeartbeats 2000000 in
theorem polyMods_walk (a0 : Option Addr) (len0 cap0 : Nat) (z0 : List Int) (a1 : Option Addr) (len1 cap1 : Nat) (z1 : List Int) (a2 : Option Addr) (len2 cap2 : Nat) (z2 : List Int) (w : World) (w0 : IsRow .u8 w a0 len0 cap0 z0) (w1 : IsRow .u8 w a1 len1 cap1 z1) (w2 : IsRow .u8 w a2 len2 cap2 z2) :
    Calls Try.prog 5 #[.slice a0 len0 cap0, .slice a1 len1 cap1, .slice a2 len2 cap2] w fun e w' => e = .returned (.bool true) ∧ Below w.heap.size w w' := by
  obtain ⟨P, hmax0⟩ := w0.arg
  obtain ⟨p, hz0⟩ : ∃ r, r = z0.take len0 := ⟨_, rfl⟩
  rw [← hz0] at P
  obtain ⟨Q, hmax1⟩ := w1.arg
  obtain ⟨q, hz1⟩ : ∃ r, r = z1.take len1 := ⟨_, rfl⟩
  rw [← hz1] at Q
  obtain ⟨R, hmax2⟩ := w2.arg
  obtain ⟨r, hz2⟩ : ∃ r, r = z2.take len2 := ⟨_, rfl⟩
  rw [← hz2] at R
  clear w0 w1 w2 hz0 hz1 hz2
  have hf := fldAt_new w 52
  have hB0 := lit_below w fieldCells 52
  by_cases hcase : 60 < len0
  · go_enter Try.func5, Try.ntmps5
    go_wp2_with (first | (go_at_call 9; refine (new_any _).mono ?_; rintro e w' ⟨rfl, rfl⟩) | (go_at_call 10; refine (anchor2_any _ _ hf).mono ?_; rintro e W1 ⟨rfl, hB1⟩))
    go_ret
    exact ⟨rfl, bnext hB0 hB1⟩
  have hl0 : len0 ≤ 60 := by omega
  clear hcase
  by_cases hcase : 60 < len1
  · go_enter Try.func5, Try.ntmps5
    go_wp2_with (first | (go_at_call 9; refine (new_any _).mono ?_; rintro e w' ⟨rfl, rfl⟩) | (go_at_call 10; refine (anchor2_any _ _ hf).mono ?_; rintro e W1 ⟨rfl, hB1⟩))
    go_ret
    exact ⟨rfl, bnext hB0 hB1⟩
  have hl1 : len1 ≤ 60 := by omega
  clear hcase
  by_cases hcase : 60 < len2
  · go_enter Try.func5, Try.ntmps5
    go_wp2_with (first | (go_at_call 9; refine (new_any _).mono ?_; rintro e w' ⟨rfl, rfl⟩) | (go_at_call 10; refine (anchor2_any _ _ hf).mono ?_; rintro e W1 ⟨rfl, hB1⟩))
    go_ret
    exact ⟨rfl, bnext hB0 hB1⟩
  have hl2 : len2 ≤ 60 := by omega
  clear hcase
  go_enter Try.func5, Try.ntmps5
  go_wp2_with (first | (go_at_call 9; refine (new_any _).mono ?_; rintro e w' ⟨rfl, rfl⟩) | (go_at_call 10; refine (anchor2_any _ _ hf).mono ?_; rintro e W1 ⟨rfl, hB1⟩))
  replace hf := hf.below hB1
  have hBB := bnext hB0 hB1
  replace P := P.below hBB
  replace Q := Q.below hBB
  replace R := R.below hBB
  clear hB1 hB0
  cases hq : tl q with
  | zero =>
    refine (mod_zero _ _ _ _ _ _ _ q W1 Q (by omega) hq).mono ?_
    rintro e w' ⟨rfl, rfl⟩
    go_wp2_with (go_at_call 18; refine (refDegree_arg _ _ _ 0 q (-1) _ Q (by omega) hq (by decide : (-1 : Int) = 0 - 1)).mono ?_; rintro e w6 ⟨rfl, rfl⟩)
    go_ret
    exact ⟨rfl, hBB⟩
  | succ d =>
    have HD : Hid (tl q = d + 1) := hq
    clear hq
    have hd60 : d + 1 ≤ len1 := by have h1 := tl_le q; have h2 := Q.len; have h3 := HD.out; omega
    obtain ⟨M, hMd, hMr, HM⟩ : ∃ M, M ≤ d ∧ M ≤ len2 ∧ Hid (min d len2 = M) := ⟨_, by omega, by omega, rfl⟩
    have hcap2 := R.cap
    have hMc : M ≤ cap2 := by omega
    have RM := R.take M hMr
    have hmn := run_minN (P := Try.prog) d len2 M HM.out
    have hdz : decide ((d : Int) < 0) = false := by simp
    refine (mod_any _ _ _ _ p _ _ _ q d W1 hf P Q (by omega) (by omega) HD).mono ?_
    rintro e W2 ⟨a3, n3, c3, l3, rfl, A3, ht3, hn3, hL3, hB⟩
    replace hf := hf.below hB
    replace P := P.below hB
    replace Q := Q.below hB
    replace R := R.below hB
    replace RM := RM.below hB
    replace hBB := bnext hBB hB
    clear hB
    have HT3 : Hid (tl l3 = n3) := ht3
    clear ht3 hL3
    have hn3I : (n3 : Int) - 1 < (d : Int) := by omega
    go_wp2_with (first | (go_at_call_of 18 (Value.slice a1 len1 cap1); refine (refDegree_arg _ _ _ (d + 1) q d _ Q (by omega) HD (by show _ = _; omega)).mono ?_; rintro e w6 ⟨rfl, rfl⟩) | (go_at_call_of 18 (Value.slice a3 n3 c3); refine (refDegree_arg _ _ _ n3 l3 ((n3 : Int) - 1) _ (by exact A3) (by omega) HT3 rfl).mono ?_; rintro e w7 ⟨rfl, rfl⟩) | (go_at_call 20; refine (lawTrimmed_arg _ _ _ l3 _ (by exact A3) (by omega) HT3.out).mono ?_; rintro e w8 ⟨rfl, rfl⟩))
    refine (trim_arg _ _ _ _ w8 RM (by omega)).mono ?_
    rintro e W4 ⟨⟨a4, n4, c4, l4, rfl, A4, ht4, hl4, hn4⟩, hB⟩
    replace hf := hf.below hB
    replace P := P.below hB
    replace Q := Q.below hB
    replace hBB := bnext hBB hB
    clear hB
    have HL4 : Hid (∀ i, cf l4 i = cf (r.take M) i) := hl4
    have HT4 : Hid (tl l4 = n4) := ht4
    clear hl4 ht4
    go_wp2_with fail
    refine (pmul_any _ _ _ _ p _ _ _ q W4 hf P Q (by omega) (by omega)).mono ?_
    rintro e W5 ⟨⟨a5, n5, c5, l5, rfl, A5, ht5, hl5, hn5⟩, hB⟩
    replace hf := hf.below hB
    replace P := P.below hB
    replace Q := Q.below hB
    replace A4 := A4.below hB
    replace hBB := bnext hBB hB
    clear hB
    have HL5 : Hid (∀ i, cf l5 i = cv (cf p) (cf q) i) := hl5
    have HT5 : Hid (tl l5 = n5) := ht5
    clear hl5 ht5
    go_wp2_with fail
    refine (add_any _ _ _ l5 _ _ _ l4 W5 A5 A4 (by omega) (by omega)).mono ?_
    rintro e W6 ⟨⟨a6, n6, c6, l6, rfl, A6, ht6, hl6, hn6⟩, hB⟩
    replace hf := hf.below hB
    replace P := P.below hB
    replace Q := Q.below hB
    replace A4 := A4.below hB
    replace hBB := bnext hBB hB
    clear hB
    have HL6 : Hid (∀ i, cf l6 i = cf l5 i ^^^ cf l4 i) := hl6
    have HT6 : Hid (tl l6 = n6) := ht6
    clear hl6 ht6
    go_wp2_with fail
    refine (mod_any _ _ _ _ l6 _ _ _ q d W6 hf A6 Q (by omega) (by omega) HD).mono ?_
    rintro e W7 ⟨a7, n7, c7, l7, rfl, A7, ht7, hn7, hL7, hB⟩
    replace hf := hf.below hB
    replace Q := Q.below hB
    replace A4 := A4.below hB
    replace hBB := bnext hBB hB
    clear hB
    have hsame : ∀ i, cf l7 i = cf l4 i := by
      obtain ⟨hlo, T, M', hT, hTe⟩ := hL7
      have hq1 : Low (d + 1) (cf q) := by have := cf_low_tl q Q.byt; rwa [HD.out] at this
      have hq2 : cf q d ≠ 0 := by have := cf_top_tl q Q.byt (by rw [HD.out]; omega); rwa [HD.out] at this
      refine Po.mod_unique hT (Po.cf_low p) hq1 hq2 hlo ((cf_lowA A4).mono (by omega)) (fun k => ?_)
      rw [← hTe k, HL6.out, HL5.out]
    clear hL7 ht7
    go_wp2_with (go_at_call 19; refine (same_arg _ _ _ l7 _ _ _ l4 W7 A7 A4 (by omega) (by omega) hsame).mono ?_; rintro e w6 ⟨rfl, rfl⟩)
    go_ret
    exact ⟨rfl, hBB⟩

set_option maxRecDepth 100000 in
set_option maxHeartbeats 2000000 in
theorem polyRing_walk (a0 : Option Addr) (len0 cap0 : Nat) (z0 : List Int) (a1 : Option Addr) (len1 cap1 : Nat) (z1 : List Int) (a2 : Option Addr) (len2 cap2 : Nat) (z2 : List Int) (w : World) (w0 : IsRow .u8 w a0 len0 cap0 z0) (w1 : IsRow .u8 w a1 len1 cap1 z1) (w2 : IsRow .u8 w a2 len2 cap2 z2) :
    Calls Try.prog 7 #[.slice a0 len0 cap0, .slice a1 len1 cap1, .slice a2 len2 cap2] w fun e w' => e = .returned (.bool true) ∧ Below w.heap.size w w' := by
  obtain ⟨P, hmax0⟩ := w0.arg
  obtain ⟨p, hz0⟩ : ∃ r, r = z0.take len0 := ⟨_, rfl⟩
  rw [← hz0] at P
  obtain ⟨Q, hmax1⟩ := w1.arg
  obtain ⟨q, hz1⟩ : ∃ r, r = z1.take len1 := ⟨_, rfl⟩
  rw [← hz1] at Q
  obtain ⟨R, hmax2⟩ := w2.arg
  obtain ⟨r, hz2⟩ : ∃ r, r = z2.take len2 := ⟨_, rfl⟩
  rw [← hz2] at R
  clear w0 w1 w2 hz0 hz1 hz2
  have hf := fldAt_new w 52
  have hB0 := lit_below w fieldCells 52
  by_cases hcase : 40 < len0
  · go_enter Try.func7, Try.ntmps7
    go_wp2_with (first | (go_at_call 9; refine (new_any _).mono ?_; rintro e w' ⟨rfl, rfl⟩) | (go_at_call 10; refine (anchor2_any _ _ hf).mono ?_; rintro e W1 ⟨rfl, hB1⟩))
    go_ret
    exact ⟨rfl, bnext hB0 hB1⟩
  have hl0 : len0 ≤ 40 := by omega
  clear hcase
  by_cases hcase : 40 < len1
  · go_enter Try.func7, Try.ntmps7
    go_wp2_with (first | (go_at_call 9; refine (new_any _).mono ?_; rintro e w' ⟨rfl, rfl⟩) | (go_at_call 10; refine (anchor2_any _ _ hf).mono ?_; rintro e W1 ⟨rfl, hB1⟩))
    go_ret
    exact ⟨rfl, bnext hB0 hB1⟩
  have hl1 : len1 ≤ 40 := by omega
  clear hcase
  by_cases hcase : 40 < len2
  · go_enter Try.func7, Try.ntmps7
    go_wp2_with (first | (go_at_call 9; refine (new_any _).mono ?_; rintro e w' ⟨rfl, rfl⟩) | (go_at_call 10; refine (anchor2_any _ _ hf).mono ?_; rintro e W1 ⟨rfl, hB1⟩))
    go_ret
    exact ⟨rfl, bnext hB0 hB1⟩
  have hl2 : len2 ≤ 40 := by omega
  clear hcase
  go_enter Try.func7, Try.ntmps7
  go_wp2_with (first | (go_at_call 9; refine (new_any _).mono ?_; rintro e w' ⟨rfl, rfl⟩) | (go_at_call 10; refine (anchor2_any _ _ hf).mono ?_; rintro e W1 ⟨rfl, hB1⟩))
  replace hf := hf.below hB1
  have hBB := bnext hB0 hB1
  replace P := P.below hBB
  replace Q := Q.below hBB
  replace R := R.below hBB
  clear hB1 hB0
  refine (pmul_any _ _ _ _ p _ _ _ q W1 hf P Q (by omega) (by omega)).mono ?_
  rintro e W3 ⟨⟨a3, n3, c3, l3, rfl, A3, ht3, hl3, hn3⟩, hB⟩
  replace hf := hf.below hB
  replace P := P.below hB
  replace Q := Q.below hB
  replace R := R.below hB
  replace hBB := bnext hBB hB
  clear hB
  have HL3 : Hid (∀ i, cf l3 i = cv (cf p) (cf q) i) := hl3
  have HT3 : Hid (tl l3 = n3) := ht3
  clear hl3 ht3
  go_wp2_with fail
  refine (add_any _ _ _ p _ _ _ q W3 P Q (by omega) (by omega)).mono ?_
  rintro e W4 ⟨⟨a4, n4, c4, l4, rfl, A4, ht4, hl4, hn4⟩, hB⟩
  replace hf := hf.below hB
  replace P := P.below hB
  replace Q := Q.below hB
  replace R := R.below hB
  replace A3 := A3.below hB
  replace hBB := bnext hBB hB
  clear hB
  have HL4 : Hid (∀ i, cf l4 i = cf p i ^^^ cf q i) := hl4
  have HT4 : Hid (tl l4 = n4) := ht4
  clear hl4 ht4
  have hn4 : n4 ≤ 40 := by omega
  go_wp2_with fail
  refine (pmul_any _ _ _ _ l4 _ _ _ r W4 hf A4 R (by omega) (by omega)).mono ?_
  rintro e W5 ⟨⟨a5, n5, c5, l5, rfl, A5, ht5, hl5, hn5⟩, hB⟩
  replace hf := hf.below hB
  replace P := P.below hB
  replace Q := Q.below hB
  replace R := R.below hB
  replace A3 := A3.below hB
  replace hBB := bnext hBB hB
  clear hB
  have HL5 : Hid (∀ i, cf l5 i = cv (cf l4) (cf r) i) := hl5
  have HT5 : Hid (tl l5 = n5) := ht5
  clear hl5 ht5
  go_wp2_with fail
  refine (pmul_any _ _ _ _ p _ _ _ r W5 hf P R (by omega) (by omega)).mono ?_
  rintro e W6 ⟨⟨a6, n6, c6, l6, rfl, A6, ht6, hl6, hn6⟩, hB⟩
  replace hf := hf.below hB
  replace P := P.below hB
  replace Q := Q.below hB
  replace R := R.below hB
  replace A3 := A3.below hB
  replace A5 := A5.below hB
  replace hBB := bnext hBB hB
  clear hB
  have HL6 : Hid (∀ i, cf l6 i = cv (cf p) (cf r) i) := hl6
  have HT6 : Hid (tl l6 = n6) := ht6
  clear hl6 ht6
  go_wp2_with fail
  refine (pmul_any _ _ _ _ q _ _ _ r W6 hf Q R (by omega) (by omega)).mono ?_
  rintro e W7 ⟨⟨a7, n7, c7, l7, rfl, A7, ht7, hl7, hn7⟩, hB⟩
  replace hf := hf.below hB
  replace P := P.below hB
  replace Q := Q.below hB
  replace R := R.below hB
  replace A3 := A3.below hB
  replace A5 := A5.below hB
  replace A6 := A6.below hB
  replace hBB := bnext hBB hB
  clear hB
  have HL7 : Hid (∀ i, cf l7 i = cv (cf q) (cf r) i) := hl7
  have HT7 : Hid (tl l7 = n7) := ht7
  clear hl7 ht7
  go_wp2_with fail
  refine (add_any _ _ _ l6 _ _ _ l7 W7 A6 A7 (by omega) (by omega)).mono ?_
  rintro e W8 ⟨⟨a8, n8, c8, l8, rfl, A8, ht8, hl8, hn8⟩, hB⟩
  replace hf := hf.below hB
  replace P := P.below hB
  replace Q := Q.below hB
  replace R := R.below hB
  replace A3 := A3.below hB
  replace A5 := A5.below hB
  replace hBB := bnext hBB hB
  clear hB
  have HL8 : Hid (∀ i, cf l8 i = cf l6 i ^^^ cf l7 i) := hl8
  have HT8 : Hid (tl l8 = n8) := ht8
  clear hl8 ht8
  have hs1 : ∀ i, cf l5 i = cf l8 i := fun i => by
    rw [HL5.out, HL8.out, HL6.out, HL7.out, ← Po.cv_xor_left]
    exact Po.cv_congr _ _ _ _ _ (fun i _ => HL4.out i) (fun _ _ => rfl)
  go_wp2_with (go_at_call 19; refine (same_arg _ _ _ l5 _ _ _ l8 W8 A5 A8 (by omega) (by omega) hs1).mono ?_; rintro e w' ⟨rfl, rfl⟩)
  clear hs1 A5 A8 HL4 HL5 HL6 HL7 HL8 HT4 HT5 HT6 HT7 HT8
  refine (pmul_any _ _ _ _ q _ _ _ p w' hf Q P (by omega) (by omega)).mono ?_
  rintro e W9 ⟨⟨a9, n9, c9, l9, rfl, A9, ht9, hl9, hn9⟩, hB⟩
  replace hf := hf.below hB
  replace P := P.below hB
  replace Q := Q.below hB
  replace R := R.below hB
  replace A3 := A3.below hB
  replace hBB := bnext hBB hB
  clear hB
  have HL9 : Hid (∀ i, cf l9 i = cv (cf q) (cf p) i) := hl9
  have HT9 : Hid (tl l9 = n9) := ht9
  clear hl9 ht9
  have hs2 : ∀ i, cf l3 i = cf l9 i := fun i => by rw [HL3.out, HL9.out, Po.cv_comm]
  go_wp2_with (go_at_call 19; refine (same_arg _ _ _ l3 _ _ _ l9 W9 A3 A9 (by omega) (by omega) hs2).mono ?_; rintro e w9 ⟨rfl, rfl⟩)
  clear hs2 A9 HL9 HT9
  refine (pmul_any _ _ _ _ l3 _ _ _ r w9 hf A3 R (by omega) (by omega)).mono ?_
  rintro e W10 ⟨⟨a10, n10, c10, l10, rfl, A10, ht10, hl10, hn10⟩, hB⟩
  replace hf := hf.below hB
  replace P := P.below hB
  replace Q := Q.below hB
  replace R := R.below hB
  replace A3 := A3.below hB
  replace hBB := bnext hBB hB
  clear hB
  have HL10 : Hid (∀ i, cf l10 i = cv (cf l3) (cf r) i) := hl10
  have HT10 : Hid (tl l10 = n10) := ht10
  clear hl10 ht10
  go_wp2_with fail
  refine (pmul_any _ _ _ _ q _ _ _ r W10 hf Q R (by omega) (by omega)).mono ?_
  rintro e W11 ⟨⟨a11, n11, c11, l11, rfl, A11, ht11, hl11, hn11⟩, hB⟩
  replace hf := hf.below hB
  replace P := P.below hB
  replace Q := Q.below hB
  replace R := R.below hB
  replace A3 := A3.below hB
  replace A10 := A10.below hB
  replace hBB := bnext hBB hB
  clear hB
  have HL11 : Hid (∀ i, cf l11 i = cv (cf q) (cf r) i) := hl11
  have HT11 : Hid (tl l11 = n11) := ht11
  clear hl11 ht11
  go_wp2_with fail
  refine (pmul_any _ _ _ _ p _ _ _ l11 W11 hf P A11 (by omega) (by omega)).mono ?_
  rintro e W12 ⟨⟨a12, n12, c12, l12, rfl, A12, ht12, hl12, hn12⟩, hB⟩
  replace hf := hf.below hB
  replace P := P.below hB
  replace Q := Q.below hB
  replace R := R.below hB
  replace A3 := A3.below hB
  replace A10 := A10.below hB
  replace hBB := bnext hBB hB
  clear hB
  have HL12 : Hid (∀ i, cf l12 i = cv (cf p) (cf l11) i) := hl12
  have HT12 : Hid (tl l12 = n12) := ht12
  clear hl12 ht12
  have hs3 : ∀ i, cf l10 i = cf l12 i := fun i => by
    rw [HL10.out, HL12.out]
    rw [Po.cv_congr (cf l3) (cv (cf p) (cf q)) (cf r) (cf r) i (fun i _ => HL3.out i) (fun _ _ => rfl), Po.cv_congr (cf p) (cf p) (cf l11) (cv (cf q) (cf r)) i (fun _ _ => rfl) (fun i _ => HL11.out i), Po.cv_assoc]
  go_wp2_with (go_at_call 19; refine (same_arg _ _ _ l10 _ _ _ l12 W12 A10 A12 (by omega) (by omega) hs3).mono ?_; rintro e w12 ⟨rfl, rfl⟩)
  clear hs3 A10 A12 HL10 HL11 HL12 HT10 HT11 HT12
  obtain ⟨mp, Hmp⟩ : ∃ m, Hid (tl p = m) := ⟨_, rfl⟩
  obtain ⟨mq, Hmq⟩ : ∃ m, Hid (tl q = m) := ⟨_, rfl⟩
  have hmp : mp ≤ 40 := by have h1 := tl_le p; have h2 := P.len; have h3 := Hmp.out; omega
  have hmq : mq ≤ 40 := by have h1 := tl_le q; have h2 := Q.len; have h3 := Hmq.out; omega
  have hpl : Low mp (cf p) := by have := cf_low_tl p P.byt; rwa [Hmp.out] at this
  have hql : Low mq (cf q) := by have := cf_low_tl q Q.byt; rwa [Hmq.out] at this
  by_cases hz : mp = 0 ∨ mq = 0
  · have h30 : n3 = 0 := by
      rw [← HT3.out]
      refine tl_of_cf l3 A3.byt 0 (fun h => by omega) (fun i _ => ?_)
      rw [HL3.out]
      rcases hz with rfl | rfl
      · exact cv_zero_left _ _ (fun i => hpl i (by omega)) i
      · exact cv_zero_right _ _ (fun i => hql i (by omega)) i
    subst h30
    by_cases h0 : mp = 0
    · subst h0
      go_wp2_with (first | (go_at_call_of 18 (Value.slice a0 len0 cap0); refine (refDegree_arg _ _ _ 0 p (-1) _ (by exact P) (by omega) Hmp (by decide : (-1 : Int) = 0 - 1)).mono ?_; rintro e w6 ⟨rfl, rfl⟩) | (go_at_call_of 18 (Value.slice a1 len1 cap1); refine (refDegree_arg _ _ _ mq q ((mq : Int) - 1) _ (by exact Q) (by omega) Hmq rfl).mono ?_; rintro e w6 ⟨rfl, rfl⟩) | (go_at_call_of 18 (Value.slice a3 0 c3); refine (refDegree_arg _ _ _ 0 l3 (-1) _ (by exact A3) (by omega) HT3 (by decide : (-1 : Int) = 0 - 1)).mono ?_; rintro e w6 ⟨rfl, rfl⟩))
      refine (add_any _ _ _ p _ _ _ p _ (by exact P) (by exact P) (by omega) (by omega)).mono ?_
      rintro e W13 ⟨hP, hB⟩
      obtain ⟨a13, n13, c13, l13, rfl, A13, ht13, hl13, hn13⟩ := hP.low (M := 0) (fun i _ => Po.xor_self' _)
      obtain rfl : n13 = 0 := by omega
      go_wp2
      go_ret
      exact ⟨rfl, bnext hBB hB⟩
    · have h0q : mq = 0 := by omega
      subst h0q
      have hmpI : decide ((mp : Int) - 1 < 0) = false := by simp; omega
      go_wp2_with (first | (go_at_call_of 18 (Value.slice a0 len0 cap0); refine (refDegree_arg _ _ _ mp p ((mp : Int) - 1) _ (by exact P) (by omega) Hmp rfl).mono ?_; rintro e w6 ⟨rfl, rfl⟩) | (go_at_call_of 18 (Value.slice a1 len1 cap1); refine (refDegree_arg _ _ _ 0 q (-1) _ (by exact Q) (by omega) Hmq (by decide : (-1 : Int) = 0 - 1)).mono ?_; rintro e w6 ⟨rfl, rfl⟩) | (go_at_call_of 18 (Value.slice a3 0 c3); refine (refDegree_arg _ _ _ 0 l3 (-1) _ (by exact A3) (by omega) HT3 (by decide : (-1 : Int) = 0 - 1)).mono ?_; rintro e w6 ⟨rfl, rfl⟩))
      refine (add_any _ _ _ p _ _ _ p _ (by exact P) (by exact P) (by omega) (by omega)).mono ?_
      rintro e W13 ⟨hP, hB⟩
      obtain ⟨a13, n13, c13, l13, rfl, A13, ht13, hl13, hn13⟩ := hP.low (M := 0) (fun i _ => Po.xor_self' _)
      obtain rfl : n13 = 0 := by omega
      go_wp2
      go_ret
      exact ⟨rfl, bnext hBB hB⟩
  · have h3n : Hid (n3 + 1 = mp + mq) := by
      show _ = _
      have hpt : cf p (mp - 1) ≠ 0 := by have := cf_top_tl p P.byt (by rw [Hmp.out]; omega); rwa [Hmp.out] at this
      have hqt : cf q (mq - 1) ≠ 0 := by have := cf_top_tl q Q.byt (by rw [Hmq.out]; omega); rwa [Hmq.out] at this
      have : tl l3 = mp + mq - 1 := by
        refine tl_of_cf l3 A3.byt _ (fun _ => ?_) (fun i hi => ?_)
        · rw [HL3.out, show mp + mq - 1 - 1 = mp - 1 + (mq - 1) from by omega, Po.cv_top (hpl.mono (by omega)) (hql.mono (by omega))]
          exact Po.mu_ne _ _ hpt hqt
        · rw [HL3.out]; exact Po.cv_low hpl hql i hi
      rw [HT3.out] at this
      omega
    have hmpI : decide ((mp : Int) - 1 < 0) = false := by simp; omega
    have hmqI : decide ((mq : Int) - 1 < 0) = false := by simp; omega
    have hdI : ((n3 : Int) - 1 == (mp : Int) - 1 + ((mq : Int) - 1)) = true := by rw [beq_iff_eq]; have := h3n.out; omega
    go_wp2_with (first | (go_at_call_of 18 (Value.slice a0 len0 cap0); refine (refDegree_arg _ _ _ mp p ((mp : Int) - 1) _ (by exact P) (by omega) Hmp rfl).mono ?_; rintro e w6 ⟨rfl, rfl⟩) | (go_at_call_of 18 (Value.slice a1 len1 cap1); refine (refDegree_arg _ _ _ mq q ((mq : Int) - 1) _ (by exact Q) (by omega) Hmq rfl).mono ?_; rintro e w6 ⟨rfl, rfl⟩) | (go_at_call_of 18 (Value.slice a3 n3 c3); refine (refDegree_arg _ _ _ n3 l3 ((n3 : Int) - 1) _ (by exact A3) (by omega) HT3 rfl).mono ?_; rintro e w6 ⟨rfl, rfl⟩))
    refine (add_any _ _ _ p _ _ _ p _ (by exact P) (by exact P) (by omega) (by omega)).mono ?_
    rintro e W13 ⟨hP, hB⟩
    obtain ⟨a13, n13, c13, l13, rfl, A13, ht13, hl13, hn13⟩ := hP.low (M := 0) (fun i _ => Po.xor_self' _)
    obtain rfl : n13 = 0 := by omega
    go_wp2
    go_ret
    exact ⟨rfl, bnext hBB hB⟩

end Go.Proofs.Ytmcdggojlnjkoaa
