/-
  The walks of the laws PolyMuls and PolyMods.
-/
import Derived.Test.YtmcdggojlnjkoaaPolyL1
namespace Go.Proofs.Ytmcdggojlnjkoaa
open Go.RowKit Go.Deep
open Gf (eI lI gI dI pI)
open Po (toE cf mu S pwr ev cv Low rts lin one)

theorem eval_arg (b : Nat) (a : Option Addr) (n c : Nat) (l : List Int) (x V : Int) (w : World) (hf : FldAt w b) (A : Arg w a n c l) (hn : n ≤ 4000) (hx : 0 ≤ x ∧ x < 256) (HV : Hid (ofE (ev n (cf l) (toE x)) = V)) :
    Calls Try.prog 23 #[.pointer (some ⟨b, 0, none⟩), .slice a n c, .int .u8 x] w fun e w' => e = .returned (.int .u8 V) ∧ ∃ k, w' = w.drewN k := by
  have h := eval_any b a c n l x w hf A.sl A.byt (by unfold maxLen; omega) A.len hx
  rw [A.len, HV.out] at h
  exact h
theorem refEval_arg (a : Option Addr) (n c : Nat) (l : List Int) (x V : Int) (w : World) (A : Arg w a n c l) (hn : n ≤ 4000) (hx : 0 ≤ x ∧ x < 256) (HV : Hid (ofE (ev n (cf l) (toE x)) = V)) :
    Calls Try.prog 24 #[.slice a n c, .int .u8 x] w fun e w' => e = .returned (.int .u8 V) ∧ w' = w := by
  have h := refEval_any a c n l x w A.sl A.byt (by unfold maxLen; omega) A.len hx
  rw [A.len, HV.out] at h
  exact h
theorem at_arg (a : Option Addr) (n c : Nat) (l : List Int) (i : Int) (k : Nat) (V : Int) (w : World) (A : Arg w a n c l) (hn : n ≤ 4000) (hi : i = (k : Int)) (HV : Hid (ofE (cf l k) = V)) :
    Calls Try.prog 15 #[.slice a n c, .int .i64 i] w fun e w' => e = .returned (.int .u8 V) ∧ w' = w := by
  have h := at_any a c n l i k w A.sl A.byt (by unfold maxLen; omega) A.len hi
  rw [← ofE_cf l A.byt, HV.out] at h
  exact h
theorem product_arg (ap : Option Addr) (np cp : Nat) (p : List Int) (aq : Option Addr) (nq cq : Nat) (q : List Int) (i : Int) (k : Nat) (V : Int) (w : World) (P : Arg w ap np cp p) (Q : Arg w aq nq cq q) (hp : np ≤ 4000) (hq : nq ≤ 4000) (hi : i = (k : Int)) (hk : k < 10000) (HV : Hid (ofE (cv (cf p) (cf q) k) = V)) :
    Calls Try.prog 22 #[.slice ap np cp, .slice aq nq cq, .int .i64 i] w fun e w' => e = .returned (.int .u8 V) ∧ ∃ k, w' = w.drewN k := by
  have h := product_any ap aq cp cq np nq p q i k w P.sl P.byt Q.sl Q.byt (by unfold maxLen; omega) (by unfold maxLen; omega) P.len Q.len hi (by omega)
  rw [HV.out] at h
  exact h
theorem same_arg (ap : Option Addr) (np cp : Nat) (p : List Int) (aq : Option Addr) (nq cq : Nat) (q : List Int) (w : World) (P : Arg w ap np cp p) (Q : Arg w aq nq cq q) (hp : np ≤ 4000) (hq : nq ≤ 4000) (h : ∀ i, cf p i = cf q i) :
    Calls Try.prog 19 #[.slice ap np cp, .slice aq nq cq] w fun e w' => e = .returned (.bool true) ∧ w' = w :=
  refSame_true ap aq cp cq np nq p q w P.sl P.byt Q.sl Q.byt (by unfold maxLen; omega) (by unfold maxLen; omega) P.len Q.len (fun i => by rw [← ofE_cf p P.byt, ← ofE_cf q Q.byt, h i])
theorem lawTrimmed_arg (a : Option Addr) (n c : Nat) (l : List Int) (w : World) (A : Arg w a n c l) (hn : n ≤ 4000) (ht : tl l = n) :
    Calls Try.prog 20 #[.slice a n c] w fun e w' => e = .returned (.bool true) ∧ w' = w :=
  lawTrimmed_true a c n l w A.sl A.byt (by unfold maxLen; omega) A.len (by rw [ht, A.len])

theorem cf_lowA {w : World} {a : Option Addr} {n c : Nat} {l : List Int} (A : Arg w a n c l) : Low n (cf l) := by
  have := Po.cf_low l; rwa [A.len] at this
/-- a polynomial's value hangs on its coefficients alone -/
theorem ev_same {n m : Nat} {p q : Nat → Po.El} (hp : Low n p) (hq : Low m q) (h : ∀ i, p i = q i) (x : Po.El) : ev n p x = ev m q x := by
  obtain rfl : p = q := funext h
  rw [← Po.ev_more hp (Nat.le_max_left n m) x, ← Po.ev_more hq (Nat.le_max_right n m) x]

set_option maxRecDepth 100000 in
set_option maxHeartbeats 1000000 in
theorem polyMuls_walk (a0 : Option Addr) (len0 cap0 : Nat) (z0 : List Int) (a1 : Option Addr) (len1 cap1 : Nat) (z1 : List Int) (a2 : Int) (w : World) (w0 : IsRow .u8 w a0 len0 cap0 z0) (w1 : IsRow .u8 w a1 len1 cap1 z1) (w2 : (Lit.int .u8 a2).wf = true) :
    Calls Try.prog 4 #[.slice a0 len0 cap0, .slice a1 len1 cap1, .int .u8 a2] w fun e w' => e = .returned (.bool true) ∧ Below w.heap.size w w' := by
  obtain ⟨P, hmax0⟩ := w0.arg
  obtain ⟨Q, hmax1⟩ := w1.arg
  obtain ⟨p, hp⟩ : ∃ r, r = z0.take len0 := ⟨_, rfl⟩
  obtain ⟨q, hq⟩ : ∃ r, r = z1.take len1 := ⟨_, rfl⟩
  rw [← hp] at P
  rw [← hq] at Q
  have hx' := bounds_u8 w2
  have hx : 0 ≤ a2 ∧ a2 < 256 := by omega
  clear w0 w1 w2 hp hq hx'
  have hf := fldAt_new w 52
  have hB0 := lit_below w fieldCells 52
  by_cases hlen0 : 60 < len0
  · go_enter Try.func4, Try.ntmps4
    go_wp2_with (first | (go_at_call 9; refine (new_any _).mono ?_; rintro e w' ⟨rfl, rfl⟩) | (go_at_call 10; refine (anchor2_any _ _ hf).mono ?_; rintro e W1 ⟨rfl, hB1⟩))
    go_ret
    exact ⟨rfl, bnext hB0 hB1⟩
  have hl0 : len0 ≤ 60 := by omega
  clear hlen0
  by_cases hlen1 : 60 < len1
  · go_enter Try.func4, Try.ntmps4
    go_wp2_with (first | (go_at_call 9; refine (new_any _).mono ?_; rintro e w' ⟨rfl, rfl⟩) | (go_at_call 10; refine (anchor2_any _ _ hf).mono ?_; rintro e W1 ⟨rfl, hB1⟩))
    go_ret
    exact ⟨rfl, bnext hB0 hB1⟩
  have hl1 : len1 ≤ 60 := by omega
  clear hlen1
  go_enter Try.func4, Try.ntmps4
  go_wp2_with (first | (go_at_call 9; refine (new_any _).mono ?_; rintro e w' ⟨rfl, rfl⟩) | (go_at_call 10; refine (anchor2_any _ _ hf).mono ?_; rintro e W1 ⟨rfl, hB1⟩))
  have hf1 := hf.below hB1
  have hB1' := bnext hB0 hB1
  have P1 := P.below hB1'
  have Q1 := Q.below hB1'
  clear hf hB1 hB0 P Q
  refine (pmul_any _ _ _ _ p _ _ _ q W1 hf1 P1 Q1 (by omega) (by omega)).mono ?_
  rintro e W2 ⟨⟨a3, n3, c3, l3, rfl, A3, ht3, hl3, hn3⟩, hB2⟩
  have hf2 := hf1.below hB2
  have hB2' := bnext hB1' hB2
  have P2 := P1.below hB2
  have Q2 := Q1.below hB2
  have HL3 : Hid (∀ i, cf l3 i = cv (cf p) (cf q) i) := hl3
  have HT3 : Hid (tl l3 = n3) := ht3
  clear hf1 hB1' P1 Q1 hB2 hl3 ht3
  go_wp2
  go_loopw [33] (fun i wr => ∃ k : Nat, k ≤ len0 + len1 ∧ i = .int .i64 (k : Int) ∧ Hid (∃ q, wr = W2.drewN q)) (fun i _ => len0 + len1 - (intOf i).toNat)
  case atStart => exact ⟨0, by omega, rfl, ⟨0, rfl⟩⟩
  case round =>
    obtain ⟨k, hk, rfl, HQ⟩ := hrel
    have hBr := below_like HQ.out
    have Pr := P2.below hBr
    have Qr := Q2.below hBr
    have Ar := A3.below hBr
    have hfr := hf2.below hBr
    have hBr' := bnext hB2' hBr
    by_cases hlt : k < len0 + len1
    · obtain ⟨V, hV, HV⟩ : ∃ V, (0 ≤ V ∧ V < 256) ∧ Hid (ofE (cf l3 k) = V) := ⟨_, ofE_bd _, rfl⟩
      have HV2 : Hid (ofE (cv (cf p) (cf q) k) = V) := by show _ = _; rw [← HL3.out]; exact HV.out
      have e1 : (V != V) = false := by simp
      have hltI : (k : Int) < (len0 : Int) + (len1 : Int) := by omega
      go_wp2_with (first | (go_at_call 15; refine (at_arg a3 n3 c3 l3 k k V wr Ar (by omega) rfl HV).mono ?_; rintro e w' ⟨rfl, rfl⟩) | (go_at_call 22; refine (product_arg a0 len0 cap0 p a1 len1 cap1 q k k V _ (by exact Pr) (by exact Qr) (by omega) (by omega) rfl (by omega) HV2).mono ?_; rintro e w5 ⟨rfl, HL⟩))
      go_roundw
      case rel => exact ⟨k + 1, by omega, by go_num, by obtain ⟨q, e⟩ := HQ.out; obtain ⟨q', e'⟩ := HL; exact ⟨q + q', by rw [e', e, World.drewN_drewN]⟩⟩
      case measure => simp [intOf]; omega
    · have hltI : ¬ ((k : Int) < (len0 : Int) + (len1 : Int)) := by omega
      obtain ⟨V, hV, HV⟩ : ∃ V, (0 ≤ V ∧ V < 256) ∧ Hid (ofE (ev len0 (cf p) (toE a2)) = V) := ⟨_, ofE_bd _, rfl⟩
      obtain ⟨U, hU, HU⟩ : ∃ V, (0 ≤ V ∧ V < 256) ∧ Hid (ofE (ev len1 (cf q) (toE a2)) = V) := ⟨_, ofE_bd _, rfl⟩
      have HM : Hid (ofE (ev n3 (cf l3) (toE a2)) = gI V U) := by
        show _ = _
        rw [← HV.out, ← HU.out, gI_ofE, ← Po.ev_cv (cf_lowA Pr) (cf_lowA Qr)]
        exact congrArg ofE (ev_same (cf_lowA Ar) ((Po.cv_low (cf_lowA Pr) (cf_lowA Qr)).mono (by omega)) HL3.out _)
      have hn3I : (n3 : Int) ≤ (len0 : Int) + (len1 : Int) := by omega
      clear HQ hBr hf2 P2 Q2 A3 hB2' hlt
      go_wp2_with fail
      refine (eval_arg _ _ _ _ p a2 V wr hfr Pr (by omega) hx HV).mono ?_
      rintro e W4 ⟨rfl, HL4⟩
      have hB4 := below_like HL4
      have hf4 := hfr.below hB4
      have P4 := Pr.below hB4
      have Q4 := Qr.below hB4
      have A4 := Ar.below hB4
      have hB4' := bnext hBr' hB4
      clear HL4 hB4 hfr Pr Qr Ar hBr'
      go_wp2_with fail
      refine (eval_arg _ _ _ _ q a2 U W4 hf4 Q4 (by omega) hx HU).mono ?_
      rintro e W5 ⟨rfl, HL5⟩
      have hB5 := below_like HL5
      have hf5 := hf4.below hB5
      have P5 := P4.below hB5
      have A5 := A4.below hB5
      have hB5' := bnext hB4' hB5
      clear HL5 hB5 hf4 P4 Q4 A4 hB4'
      go_wp2_with (first | (go_at_call 20; refine (lawTrimmed_arg _ _ _ l3 W5 A5 (by omega) HT3.out).mono ?_; rintro e w' ⟨rfl, rfl⟩) | (go_at_call 24; refine (refEval_arg _ _ _ p a2 V _ (by exact P5) (by omega) hx HV).mono ?_; rintro e w' ⟨rfl, rfl⟩) | (go_at_call 23; refine (eval_arg _ _ _ _ l3 a2 (gI V U) _ (by exact hf5) (by exact A5) (by omega) hx HM).mono ?_; rintro e W6 ⟨rfl, HL6⟩) | (go_at_call 16; refine (refMul_any _ _ (by omega) (by omega) (by omega) (by omega) _).mono ?_; rintro e w' ⟨rfl, rfl⟩))
      go_ret
      exact ⟨rfl, bnext hB5' (below_like HL6)⟩

end Go.Proofs.Ytmcdggojlnjkoaa
