/-
  The syndrome, by a range over the ones of the data.
-/
import Derived.Test.YtdjknaafefnlcaaDoorHsW3
import Derived.BigRegion
import Derived.WalkSmall
namespace Go.Proofs.YtdjknaafefnlcaaDoor
open Go.RowKit Go.Shelf
open Bm (wt wtK cntW)
open Hm (col onesOf nOf idx kd pl xs ap syn)
attribute [local go_sem] Oper.semAt_some

/-- between two rounds: B the first block of the call -/
structure SyI (B b k : Nat) (X : Nat → Nat) (w : World) (x : Nat) (W : World) : Prop where
  c : Box W B (.pointer (some ⟨b, 0, none⟩))
  s : Box W (B + 1) (.int .u8 ((k ^^^ X x : Nat) : Int))
  code : CodeAt W b
  below : Below B w W

theorem SyI.drew {B b k : Nat} {X : Nat → Nat} {w : World} {x : Nat} {W : World} (h : SyI B b k X w x W) : SyI B b k X w x W.drew := ⟨h.c, h.s, h.code, below_stay h.below (Stay.drewN B W 1) (Nat.le_refl _)⟩
theorem Keep.drew {M : Nat → Prop} {X Y : World} (h : Keep M X Y) : Keep M X Y.drew := h
/-- what the last step of the syndrome leaves -/
theorem sy_leaves {B D : Nat} {w W : World} {y : Value} (hb : Box W (B + 1) y) (hK : W.heap[D]? = some (.deferred (some []))) (hD : B + 2 ≤ D) (h : Below B w W) (u : Value) :
    Box ((W.setCell ⟨B + 1, 0, none⟩ u).drew) (B + 1) u ∧ ((W.setCell ⟨B + 1, 0, none⟩ u).drew).heap[D]? = some (.deferred (some [])) ∧ Below B w ((W.setCell ⟨B + 1, 0, none⟩ u).drew) :=
  ⟨(hb.set u :), ((Below.heap_setCell W ⟨B + 1, 0, none⟩ u D (by simp; omega)).trans hK :), below_stay (h.setCell (p := ⟨B + 1, 0, none⟩) (by simp) _) (Stay.drewN B _ 1) (Nat.le_refl _)⟩
theorem sy_shut {B D : Nat} {w W : World} (hK : W.heap[D]? = some (.deferred (some []))) (hD : B ≤ D) (h : Below B w W) : Below B w (W.putObj D (.deferred none)) :=
  below_stay h (Stay.putObj (B := D) _ hK rfl (Nat.le_refl _)) hD

set_option maxRecDepth 100000 in
set_option maxHeartbeats 2000000 in
theorem syndrome_any (b d k : Nat) (a p : Int) (hd : d < 18446744073709551616) (hk : k < 256) (w : World) (hc : CodeAt w b) (hT : TabW w) :
    Calls Tryd.prog 62 #[.pointer (some ⟨b, 0, none⟩), .int .u64 (d : Int), .int .u8 (k : Int), .int .i64 a, .int .i64 p] w fun e w' => e = .returned (.int .u8 (syn d k a p : Int)) ∧ Below w.heap.size w w' := by
  have Hsyn : Hid (syn d k a p = ((k ^^^ xs d 64) ^^^ ap a 72) ^^^ ap p 73) := rfl
  obtain ⟨S, HS⟩ : ∃ S, syn d k a p = S := ⟨_, rfl⟩
  rw [HS] at Hsyn ⊢
  clear HS
  obtain ⟨X, Hx⟩ : ∃ X : Nat → Nat, Hid (xs d = X) := ⟨_, rfl⟩
  have hx0 : Hid (X 0 = 0) := by rw [← Hx.out]; rfl
  have hxl : Hid (∀ n, X n < 256) := fun n => by rw [← Hx.out]; exact Hm.xs_lt d n
  have Hy : Hid (∀ n, d / 2 ^ n % 2 = 1 → X (n + 1) = X n ^^^ col n) := fun n h => by rw [← Hx.out]; exact Hm.xs_yes d n h
  have Hn : Hid (∀ n, ¬ d / 2 ^ n % 2 = 1 → X (n + 1) = X n) := fun n h => by rw [← Hx.out]; exact Hm.xs_no d n h
  rw [Hx.out] at Hsyn
  clear Hx
  have hT0 := hT.lt
  have hbl := hc.lt
  have HC : Hid (CodeAt w b) := hc
  have HT : Hid (TabW w) := hT
  clear hc hT
  refine (callsIn_wide (n := 10)).1 ?_
  refine callsIn_of_wp_marks Tryd.func62 rfl trivial ?_ rfl
  simp only [Tryd.ntmps62, List.size_toArray, List.length_cons, List.length_nil, Nat.reduceAdd, Nat.reduceSub, Array.replicate_succ, Array.replicate_zero, List.push_toArray, List.append_toArray, List.nil_append, List.cons_append]
  refine wpIn_wide.2 ?_
  go_wp2_with (go_at_call 79; refine (ones64_any _ _).mono ?_; rintro e w' ⟨rfl, rfl⟩)
  obtain ⟨V, hV⟩ : ∃ V, ((w.alloc (.cells #[.pointer (some ⟨b, 0, none⟩)] 54)).alloc (.cells #[.int .u8 (k : Int)] 5)).alloc (.cells #[.int .u64 (d : Int)] 47) = V := ⟨_, rfl⟩
  obtain ⟨sV, a0, a1, a2, hSV⟩ := box3 w _ _ _ _ _ _ V hV
  rw [hV]
  clear hV
  have hBV : Below w.heap.size w V := below_stay (Below.refl _ w) hSV (Nat.le_refl _)
  have hTV : TabW V := HT.out.below hBV hT0
  have hCV : CodeAt V b := HC.out.below hBV hbl
  obtain ⟨B, hB⟩ : ∃ B, w.heap.size = B := ⟨_, rfl⟩
  rw [hB] at hT0 hbl sV a0 a1 a2 hSV hBV ⊢
  clear HC HT hSV
  refine (wpIn_wide (n := 10)).1 (rangeC rfl (enters_of Tryd.func95 (by kernel_rfl) rfl) (ones64_seq (B + 1 + 1) d hd V a2.lt a2.1 hTV) (fun _ => rfl)
    (fun x => x = B + 1) (by rintro x rfl; constructor <;> omega) (by rintro x rfl; omega)
    (SyI B b k X w) (fun _ _ _ => False)
    (by rintro x A C ⟨h1, h2, h3, h4⟩ hs; exact ⟨h1.stay hs, h2.stay hs, h3.stay hs, below_stay h4 hs (by omega)⟩)
    (fun _ _ _ _ h _ => h.elim) ⟨a0, by rw [hx0.out]; simpa using a1, hCV, hBV⟩
    (by rintro x W hx hp ⟨h1, h2, h3, h4⟩
        exact ⟨h1, by rw [Hn.out x hp]; exact h2, h3, h4⟩) ?round ?done (fun _ _ _ _ _ _ _ h => h.elim))
  case round =>
    rintro l x W W2 hx hp ⟨h1, h2, h3, h4⟩
    have cell := h3 x (by omega)
    have hcl := Hm.col_lt x
    have hxc := Hy.out x hp
    obtain ⟨c, Hc⟩ : ∃ c, Hid (col x = c) := ⟨_, rfl⟩
    rw [Hc.out] at cell hcl hxc
    obtain ⟨z, hz, Hz⟩ : ∃ z, z < 256 ∧ Hid (k ^^^ X x = z) := ⟨_, Hm.xor_lt hk (hxl.out x), rfl⟩
    rw [Hz.out] at h2
    have ex := u8_xor_nat z c hz hcl
    have fin : Hid (Keep (fun x => x = B + 1) W2 (W2.setCell ⟨B + 1, 0, none⟩ (.int .u8 ((z ^^^ c : Nat) : Int))).drew ∧ SyI B b k X w (x + 1) (W2.setCell ⟨B + 1, 0, none⟩ (.int .u8 ((z ^^^ c : Nat) : Int))).drew) := by
      refine ⟨((Keep.refl (fun x => x = B + 1) W2).set (c := B + 1) rfl _).drew, SyI.drew ⟨h1.other (by omega) _, ?_, h3.of (Below.heap_setCell W2 ⟨B + 1, 0, none⟩ _ b (by simp; omega)), h4.setCell (p := ⟨B + 1, 0, none⟩) (by simp) _⟩⟩
      rw [hxc, ← Nat.xor_assoc, Hz.out]
      exact h2.set _
    have q0 := h1.1; have q1 := h2.1; have f1 := h2.2
    have nb : b ≠ B + 1 := by omega
    have nB : B ≠ B + 1 := by omega
    clear h1 h2 h3 h4 hp hxc Hy Hn hx0 hxl Hsyn
    gi_wp2
    try (refine ⟨trivial, ?_⟩)
    try gi_wp2
    gi_region
    all_goals (try gi_wp2)
    all_goals exact fin.out
  case done =>
    rintro D W hD ⟨h1, h2, h3, h4⟩ hK
    have l72 := h3 72 (by omega)
    have l73 := h3 73 (by omega)
    have c72 := Hm.col_lt 72
    have c73 := Hm.col_lt 73
    obtain ⟨z, hz, Hz⟩ : ∃ z, z < 256 ∧ Hid (k ^^^ X 64 = z) := ⟨_, Hm.xor_lt hk (hxl.out 64), rfl⟩
    rw [Hz.out] at h2 Hsyn
    obtain ⟨u, Hu⟩ : ∃ u, Hid (col 72 = u) := ⟨_, rfl⟩
    obtain ⟨v, Hv⟩ : ∃ v, Hid (col 73 = v) := ⟨_, rfl⟩
    rw [Hu.out] at l72 c72
    rw [Hv.out] at l73 c73
    have Hap : Hid (ap a 72 = if a % 2 = 1 then u else 0) := by show _ = _; unfold ap; rw [Hu.out]
    have Hpp : Hid (ap p 73 = if p % 2 = 1 then v else 0) := by show _ = _; unfold ap; rw [Hv.out]
    have q0 := h1.1; have q1 := h2.1; have f1 := h2.2
    have nb : b ≠ B + 1 := by omega
    have nB : B ≠ B + 1 := by omega
    have ha := low_ask a
    have hp := low_ask p
    have H2 : Hid (Box W (B + 1) (.int .u8 (z : Int))) := h2
    have H4 : Hid (Below B w W) := h4
    have HK : Hid (W.heap[D]? = some (.deferred (some []))) := hK
    clear h1 h2 h3 h4 hK Hy Hn hx0 hxl Hu Hv
    by_cases h1 : a % 2 = 1
    · have g1 : (bits .and .i64 a 1 == 1) = true := by rw [ha]; simp [h1]
      have x1 := u8_xor_nat z u hz c72
      have r1 := Hm.xor_lt hz c72
      obtain ⟨k1, k2, k3⟩ := sy_leaves H2.out HK.out (by omega) H4.out (.int .u8 ((z ^^^ u : Nat) : Int))
      have K1 : Hid _ := k1
      have K2 : Hid _ := k2
      have K3 : Hid _ := k3
      clear k1 k2 k3
      by_cases h2 : p % 2 = 1
      · have g2 : (bits .and .i64 p 1 == 1) = true := by rw [hp]; simp [h2]
        have x2 := u8_xor_nat (z ^^^ u) v r1 c73
        have hr : Hid (S = z ^^^ u ^^^ v) := by show _ = _; rw [Hsyn.out, Hap.out, Hpp.out, if_pos h1, if_pos h2]
        obtain ⟨k1, k2, k3⟩ := sy_leaves K1.out K2.out (by omega) K3.out (.int .u8 ((z ^^^ u ^^^ v : Nat) : Int))
        have L2 : Hid _ := k2
        have L3 : Hid _ := k3
        clear ha hp h1 h2 k1 k2 k3
        go_wp2
        go_region
        go_wp2
        go_region
        go_wp2
        refine ⟨by simp, .inl ⟨_, _, rfl, run_takeDeferred L2.out, ?_⟩⟩
        refine ⟨_, results_tmp rfl _ _ _, ?_, by rw [hB]; exact sy_shut L2.out (by omega) L3.out⟩
        rw [hr.out]; rfl
      · have g2 : (bits .and .i64 p 1 == 1) = false := by rw [hp]; simp [h2]
        have hr : Hid (S = z ^^^ u) := by show _ = _; rw [Hsyn.out, Hap.out, Hpp.out, if_pos h1, if_neg h2, Nat.xor_zero]
        clear ha hp h1 h2
        go_wp2
        go_region
        go_wp2
        refine ⟨by simp, .inl ⟨_, _, rfl, run_takeDeferred K2.out, ?_⟩⟩
        refine ⟨_, results_tmp rfl _ _ _, ?_, by rw [hB]; exact sy_shut K2.out (by omega) K3.out⟩
        rw [hr.out]; rfl
    · have g1 : (bits .and .i64 a 1 == 1) = false := by rw [ha]; simp [h1]
      by_cases h2 : p % 2 = 1
      · have g2 : (bits .and .i64 p 1 == 1) = true := by rw [hp]; simp [h2]
        have x2 := u8_xor_nat z v hz c73
        have hr : Hid (S = z ^^^ v) := by show _ = _; rw [Hsyn.out, Hap.out, Hpp.out, if_neg h1, if_pos h2, Nat.xor_zero]
        obtain ⟨k1, k2, k3⟩ := sy_leaves H2.out HK.out (by omega) H4.out (.int .u8 ((z ^^^ v : Nat) : Int))
        have L2 : Hid _ := k2
        have L3 : Hid _ := k3
        clear ha hp h1 h2 k1 k2 k3
        go_wp2
        go_region
        go_wp2
        refine ⟨by simp, .inl ⟨_, _, rfl, run_takeDeferred L2.out, ?_⟩⟩
        refine ⟨_, results_tmp rfl _ _ _, ?_, by rw [hB]; exact sy_shut L2.out (by omega) L3.out⟩
        rw [hr.out]; rfl
      · have g2 : (bits .and .i64 p 1 == 1) = false := by rw [hp]; simp [h2]
        have hr : Hid (S = z) := by show _ = _; rw [Hsyn.out, Hap.out, Hpp.out, if_neg h1, if_neg h2, Nat.xor_zero, Nat.xor_zero]
        clear ha hp h1 h2
        go_wp2
        refine ⟨by simp, .inl ⟨_, _, rfl, run_takeDeferred HK.out, ?_⟩⟩
        refine ⟨_, results_tmp rfl _ _ _, ?_, by rw [hB]; exact sy_shut HK.out (by omega) H4.out⟩
        rw [hr.out]; rfl
end Go.Proofs.YtdjknaafefnlcaaDoor
