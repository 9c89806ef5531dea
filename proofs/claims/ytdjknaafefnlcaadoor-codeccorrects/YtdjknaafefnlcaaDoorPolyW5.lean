/-
  The walks of Mul, Scale, Add and Shift.
-/
import Derived.Test.YtdjknaafefnlcaaDoorPolyW4
namespace Go.Proofs.YtdjknaafefnlcaaDoor
open Go.RowKit Go.Deep
open Gf (eI lI gI dI pI)
open Po (toE cf mu S pwr ev cv Low)

theorem trimmed_arg (a : Option Addr) (n c m : Nat) (l : List Int) (w : World) (A : Arg w a n c l) (hn : n ≤ 4000) (hm : Hid (tl l = m)) :
    Calls Tryd.prog 86 #[.slice a n c] w fun e w' => e = .returned (.slice a m c) ∧ w' = w := by
  obtain ⟨en, sa, ba, hc, hnil⟩ := A
  subst en
  have h := trimmed_any a c l w sa ba (by unfold maxLen; omega) hc
  rw [hm.out] at h
  exact h
/-- a list without the noughts at its end -/
theorem Arg.trim {w : World} {a : Option Addr} {n c m : Nat} {l : List Int} (A : Arg w a n c l) (hm : Hid (tl l = m)) : ∃ l', Arg w a m c l' ∧ Hid (∀ i, cf l' i = cf l i) ∧ Hid (tl l' = m) ∧ m ≤ n := by
  have h := tl_le l
  have e := A.len
  have hm' := hm.out
  refine ⟨l.take m, A.take m (by omega), ?_, ?_, by omega⟩
  · intro i; rw [← hm']; exact take_cf l i
  · show _ = _; rw [← hm']; exact take_tl l

/-- the first k products of each coefficient -/
def pcv (p q : Nat → Po.El) (k j : Nat) : Po.El := S k (fun i => if i ≤ j then mu (p i) (q (j - i)) else 0)
theorem pcv_end (p q : Nat → Po.El) (n j : Nat) (hp : Low n p) : pcv p q n j = cv p q j := by
  unfold pcv cv
  have h1 : S (j + 1) (fun i => mu (p i) (q (j - i))) = S (j + 1) (fun i => if i ≤ j then mu (p i) (q (j - i)) else 0) :=
    Po.S_congr _ _ _ (fun i hi => by show _ = if i ≤ j then _ else _; rw [if_pos (by omega)])
  rw [h1]
  by_cases h : n ≤ j + 1
  · exact (Po.S_more n (j + 1) _ (fun i hi => by rw [hp i hi, Po.zero_mu]; split <;> rfl) h).symm
  · exact Po.S_more (j + 1) n _ (fun i hi => by rw [if_neg (by omega)]) (by omega)
theorem cv_zero_left (p q : Nat → Po.El) (h : ∀ i, p i = 0) (k : Nat) : cv p q k = 0 := Po.S_null _ _ (fun i _ => by rw [h i, Po.zero_mu])
theorem cv_zero_right (p q : Nat → Po.El) (h : ∀ i, q i = 0) (k : Nat) : cv p q k = 0 := Po.S_null _ _ (fun i _ => by rw [h (k - i), Po.mu_zero])
theorem isP_none (w : World) (C : Nat → Po.El) (N : Nat) (h : ∀ i, C i = 0) : IsP w (.returned (.slice none 0 0)) C N :=
  ⟨none, 0, 0, [], rfl, Arg.none w, rfl, fun i => by rw [h i]; rfl, Nat.zero_le _⟩
/-- a row, trimmed, is a polynomial -/
theorem isP_row {w : World} {g n c : Nat} {F : Nat → Po.El} (row : RowE w g n F) (hc : n ≤ c) (h1 : 0 < n → F (n - 1) ≠ 0) (h2 : Low n F) (C : Nat → Po.El) (hC : ∀ i, F i = C i) (N : Nat) (hN : n ≤ N) :
    IsP w (.returned (.slice (some ⟨g, 0, none⟩) n c)) C N :=
  ⟨_, n, c, lst n F, rfl, row.arg hc, tl_of_cf _ (lst_byt n F) n (fun h => by rw [lst_cf n F _ (by omega)]; exact h1 h) (fun i hi => by rw [lst_low n F h2]; exact h2 i hi), fun i => by rw [lst_low n F h2, hC], hN⟩

set_option maxRecDepth 100000 in
set_option maxHeartbeats 1000000 in
theorem pmul_any (b : Nat) (ap : Option Addr) (np cp : Nat) (p : List Int) (aq : Option Addr) (nq cq : Nat) (q : List Int) (w : World) (hf : FldAt w b) (P : Arg w ap np cp p) (Q : Arg w aq nq cq q) (hp : np ≤ 2000) (hq : nq ≤ 2000) :
    Calls Tryd.prog 78 #[.pointer (some ⟨b, 0, none⟩), .slice ap np cp, .slice aq nq cq] w fun e w' => IsP w' e (cv (cf p) (cf q)) (np + nq) ∧ Below w.heap.size w w' := by
  obtain ⟨m1, Hm1⟩ : ∃ m, Hid (tl p = m) := ⟨_, rfl⟩
  obtain ⟨m2, Hm2⟩ : ∃ m, Hid (tl q = m) := ⟨_, rfl⟩
  obtain ⟨p', P', Hp', Ht1, hmp⟩ := P.trim Hm1
  obtain ⟨q', Q', Hq', Ht2, hmq⟩ := Q.trim Hm2
  have KP := trimmed_arg ap np cp m1 p w P (by omega) Hm1
  have KQ := trimmed_arg aq nq cq m2 q w Q (by omega) Hm2
  by_cases h1 : m1 = 0
  · subst h1
    go_enter Tryd.func78, Tryd.ntmps78
    go_wp2_with (first | (go_at_call_of 86 (Value.slice ap np cp); refine KP.mono ?_; rintro e w' ⟨rfl, rfl⟩) | (go_at_call_of 86 (Value.slice aq nq cq); refine KQ.mono ?_; rintro e w' ⟨rfl, rfl⟩))
    go_ret
    exact ⟨isP_none _ _ _ (cv_zero_left _ _ (fun i => cf_low_tl p P.byt i (by rw [Hm1.out]; omega))), Below.refl _ _⟩
  by_cases h2 : m2 = 0
  · subst h2
    have h1' : ((m1 : Int) == 0) = false := by simp [h1]
    go_enter Tryd.func78, Tryd.ntmps78
    go_wp2_with (first | (go_at_call_of 86 (Value.slice ap np cp); refine KP.mono ?_; rintro e w' ⟨rfl, rfl⟩) | (go_at_call_of 86 (Value.slice aq nq cq); refine KQ.mono ?_; rintro e w' ⟨rfl, rfl⟩))
    go_ret
    exact ⟨isP_none _ _ _ (cv_zero_right _ _ (fun i => cf_low_tl q Q.byt i (by rw [Hm2.out]; omega))), Below.refl _ _⟩
  have h1' : ((m1 : Int) == 0) = false := by simp [h1]
  have h2' : ((m2 : Int) == 0) = false := by simp [h2]
  have h1p : 0 < m1 := by omega
  have h2p : 0 < m2 := by omega
  clear h1 h2
  obtain ⟨N, hN, HN⟩ : ∃ N, N < 4000 ∧ Hid (N + 1 = m1 + m2) := ⟨m1 + m2 - 1, by omega, by show _ = _; omega⟩
  have hmk := run_make_row' (P := Tryd.prog) 52 5 (.int .u8 0) 1 Tryd.underlying52 info_u8 rfl .i64 .i64 N (by omega) (by omega)
  have eN : ((N : Nat) : Int) = (m1 : Int) + (m2 : Int) - 1 := by have := HN.out; omega
  rw [eN] at hmk
  clear eN
  go_enter Tryd.func78, Tryd.ntmps78
  go_wp2_with (first | (go_at_call_of 86 (Value.slice ap np cp); refine KP.mono ?_; rintro e w' ⟨rfl, rfl⟩) | (go_at_call_of 86 (Value.slice aq nq cq); refine KQ.mono ?_; rintro e w' ⟨rfl, rfl⟩))
  clear hmk KP KQ
  go_loopw [31] (fun i wr => ∃ k : Nat, k ≤ m1 ∧ i = .int .i64 (k : Int) ∧ RowE wr w'.heap.size N (pcv (cf p) (cf q) k) ∧ Below w'.heap.size w' wr) (fun i _ => m1 - (intOf i).toNat)
  case atStart => exact ⟨0, by omega, rfl, (rowE_made w' N).congr (fun i _ => rfl), (Below.refl _ _).alloc (Nat.le_refl _) _⟩
  case round =>
    obtain ⟨k, hk, rfl, row, hB⟩ := hrel
    have hbs := hB.size
    have hbl := hf.lt
    by_cases hlt : k < m1
    · have hkN : k < N := by have := HN.out; omega
      have hkN2 : k + m2 ≤ N := by have := HN.out; omega
      obtain ⟨x, hx, Hx⟩ : ∃ x, (0 ≤ x ∧ x < 256) ∧ Hid (x = p'[k]?.getD 0) := ⟨_, P'.byt k (by rw [P'.len]; exact hlt), rfl⟩
      rcases P'.sl with sp | ⟨b1, o1, rfl, hb1, hc1⟩
      · have := P'.len; rw [sp] at this; simp at this; omega
      have c1 : wr.cell? ⟨b1, o1 + k, none⟩ = some (.int .u8 x) := by rw [Hx.out, hB.cell (p := ⟨b1, o1 + k, none⟩) hb1]; exact hc1 k (by rw [P'.len]; exact hlt)
      have Qr := Q'.below hB
      have hfr := hf.below hB
      have hLies := Q'.lies
      clear hc1
      go_wp2_with (go_at_call 84; refine (addScaled_any b w'.heap.size N k (N - k) (N - k) aq cq m2 q' x (pcv (cf p) (cf q) k) wr hfr hbl Qr.sl hLies Qr.byt hx hkN2 (by omega) (by omega) row Qr.len).mono ?_; rintro e w2 ⟨rfl, row', hB'⟩)
      go_roundw
      case rel =>
        refine ⟨k + 1, by omega, by go_num, row'.congr (fun j _ => ?_), hB.trans hB'⟩
        have ex : toE x = cf p k := by rw [Hx.out, ← Hp'.out k]; rfl
        rw [adN_all, ex]
        show _ = pcv (cf p) (cf q) k j ^^^ (if k ≤ j then mu (cf p k) (cf q (j - k)) else 0)
        rw [Hq'.out]
      case measure => simp [intOf]; omega
    · have hkm : k = m1 := by omega
      subst hkm
      go_wp2
      go_ret
      have h1l : Low k (cf p) := by have := cf_low_tl p P.byt; rwa [Hm1.out] at this
      have h2l : Low m2 (cf q) := by have := cf_low_tl q Q.byt; rwa [Hm2.out] at this
      have h1t : cf p (k - 1) ≠ 0 := by have := cf_top_tl p P.byt (by rw [Hm1.out]; omega); rwa [Hm1.out] at this
      have h2t : cf q (m2 - 1) ≠ 0 := by have := cf_top_tl q Q.byt (by rw [Hm2.out]; omega); rwa [Hm2.out] at this
      have hNN := HN.out
      have hl := Po.cv_low h1l h2l
      rw [show k + m2 - 1 = N from by omega] at hl
      refine ⟨isP_row (F := cv (cf p) (cf q)) (row.congr (fun j _ => pcv_end _ _ _ j h1l)) (Nat.le_refl _) (fun _ => ?_) hl _ (fun _ => rfl) _ (by omega), hB⟩
      have := Po.cv_top (a := k - 1) (b := m2 - 1) (p := cf p) (q := cf q) (h1l.mono (by omega)) (h2l.mono (by omega))
      rw [show N - 1 = k - 1 + (m2 - 1) from by omega, this]
      exact Po.mu_ne _ _ h1t h2t

end Go.Proofs.YtdjknaafefnlcaaDoor
