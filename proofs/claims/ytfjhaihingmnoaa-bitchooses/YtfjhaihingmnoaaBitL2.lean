/-
  The law BitChooses.
-/
import Derived.Test.YtfjhaihingmnoaaBitW4
import Derived.Test.YtfjhaihingmnoaaQuiet
import Derived.OpenShut
import Derived.BigQuiet
namespace Go.Proofs.Ytfjhaihingmnoaa
open Go.RowKit Go.Shelf
open Bm (wt wtK cntW)
attribute [local go_sem] Oper.semAt_some

theorem run_minI (a b c : Int) (h : min a b = c) {P : Program} (ts : Array TypeId) (t : TypeId) (w : World) : (Builtin.min_ ts t #[.int .i64 a, .int .i64 b]).run P w = .ok (.int .i64 c) w := by
  have e : (if b < a then b else a) = c := by split <;> omega
  rw [← e]
  simp [Builtin.min_, Builtin.min2]

/-- the law's arguments and its result, in their boxes from B on; what lay before lies -/
structure Four (B : Nat) (v0 v1 v2 v3 : Value) (w W : World) : Prop where
  b0 : Box W B v0
  b1 : Box W (B + 1) v1
  b2 : Box W (B + 1 + 1) v2
  b3 : Box W (B + 1 + 1 + 1) v3
  below : Below B w W
theorem Four.stay {B C : Nat} {v0 v1 v2 v3 : Value} {w W W' : World} (h : Four B v0 v1 v2 v3 w W) (hs : Stay C W W') (hC : B ≤ C) : Four B v0 v1 v2 v3 w W' :=
  ⟨h.b0.stay hs, h.b1.stay hs, h.b2.stay hs, h.b3.stay hs, below_stay h.below hs hC⟩
theorem Four.set {B c : Nat} {v0 v1 v2 v3 u : Value} {w W : World} (h : Four B v0 v1 v2 v3 w W) (hc : B + 4 ≤ c) : Four B v0 v1 v2 v3 w (W.setCell ⟨c, 0, none⟩ u) :=
  ⟨h.b0.other (by omega) _, h.b1.other (by omega) _, h.b2.other (by omega) _, h.b3.other (by omega) _, h.below.setCell (p := ⟨c, 0, none⟩) (by simp; omega) _⟩
theorem Four.drewN {B : Nat} {v0 v1 v2 v3 : Value} {w W : World} (h : Four B v0 v1 v2 v3 w W) (k : Nat) : Four B v0 v1 v2 v3 w (W.drewN k) := ⟨h.b0, h.b1, h.b2, h.b3, below_drewN h.below k⟩
theorem Four.on {B C : Nat} {v0 v1 v2 v3 : Value} {w W W' : World} (h : Four B v0 v1 v2 v3 w W) (k : Below C W W') (hC : W.heap.size ≤ C) (hB : B ≤ C) : Four B v0 v1 v2 v3 w W' :=
  have l0 := h.b0.lt; have l1 := h.b1.lt; have l2 := h.b2.lt; have l3 := h.b3.lt
  ⟨h.b0.below k (by omega), h.b1.below k (by omega), h.b2.below k (by omega), h.b3.below k (by omega), h.below.trans (k.mono hB)⟩

/-- between two rounds over Choose of 64 bits: S the block of the counter -/
def ChI (B S : Nat) (n k stop : Int) (w : World) (x : Nat) (W : World) : Prop :=
  Box W S (.int .i64 (cntW k x : Int)) ∧ (∃ L : Nat, L ≤ 65536 ∧ (L < x ∨ cntW k x = 0) ∧ Box W (S + 1) (.int .u64 (L : Int))) ∧ Four B (.int .i64 n) (.int .i64 k) (.int .i64 stop) (.bool false) w W ∧ (stop < 1 ∨ (cntW k x : Int) < stop)
/-- where a round has left -/
def ChX (B S : Nat) (n k stop : Int) (w : World) (c : Code) (x : Nat) (W : World) : Prop :=
  c = .exit 2 ∧ 1 ≤ stop ∧ (cntW k (x + 1) : Int) = stop ∧ Box W S (.int .i64 stop) ∧ Four B (.int .i64 n) (.int .i64 k) (.int .i64 stop) (.bool false) w W
/-- behind it: D the block of the first range's deferred calls -/
def ChT (B S D : Nat) (n k stop : Int) (M : Nat) (w W : World) : Prop :=
  Box W S (.int .i64 (M : Int)) ∧ Four B (.int .i64 n) (.int .i64 k) (.int .i64 stop) (.bool false) w W ∧ W.heap[D]? = some (.deferred (some []))
theorem ChT.stay {B S D C : Nat} {n k stop : Int} {M : Nat} {w W W' : World} (h : ChT B S D n k stop M w W) (hs : Stay C W W') (hB : B ≤ C) (hD : D < C) : ChT B S D n k stop M w W' :=
  ⟨h.1.stay hs, h.2.1.stay hs hB, (hs.low D hD).trans h.2.2⟩
theorem two_boxes (w : World) (t0 t1 : TypeId) (v0 v1 : Value) (V : World) (h : (w.alloc (.cells #[v0] t0)).alloc (.cells #[v1] t1) = V) :
    V.heap.size = w.heap.size + 2 ∧ Box V w.heap.size v0 ∧ Box V (w.heap.size + 1) v1 ∧ Stay w.heap.size w V := by
  have a0 := Box.new w t0 v0
  have a1 := Box.new (w.alloc (.cells #[v0] t0)) t1 v1
  simp only [World.size_alloc] at a1
  rw [← h]
  exact ⟨by simp, a0.alloc _, a1, (Stay.alloc _ w _ (Nat.le_refl _)).trans (Stay.alloc _ _ _ (by simp))⟩
theorem leaves2 {n B D E : Nat} {w W : World} {v u : Value} (hb : Box W B v) (hK : W.heap[D]? = some (.deferred (some []))) (hE : W.heap[E]? = some (.deferred (some []))) (hB : n ≤ B) (hD : n ≤ D) (hEn : n ≤ E) (hne : B ≠ D) (hne2 : B ≠ E) (hDE : D ≠ E) (h : Below n w W) :
    (W.setCell ⟨B, 0, none⟩ u).heap[E]? = some (.deferred (some [])) ∧ ((W.setCell ⟨B, 0, none⟩ u).putObj E (.deferred none)).heap[D]? = some (.deferred (some [])) ∧
      (((W.setCell ⟨B, 0, none⟩ u).putObj E (.deferred none)).putObj D (.deferred none)).cell? ⟨B, 0, none⟩ = some u ∧ Below n w (((W.setCell ⟨B, 0, none⟩ u).putObj E (.deferred none)).putObj D (.deferred none)) := by
  have k1 : (W.setCell ⟨B, 0, none⟩ u).heap[E]? = some (.deferred (some [])) := (Below.heap_setCell W _ u E (fun e => hne2 e.symm)).trans hE
  have k2 : (W.setCell ⟨B, 0, none⟩ u).heap[D]? = some (.deferred (some [])) := (Below.heap_setCell W _ u D (fun e => hne e.symm)).trans hK
  have s1 : Stay E (W.setCell ⟨B, 0, none⟩ u) ((W.setCell ⟨B, 0, none⟩ u).putObj E (.deferred none)) := Stay.putObj _ k1 rfl (Nat.le_refl _)
  have k3 : ((W.setCell ⟨B, 0, none⟩ u).putObj E (.deferred none)).heap[D]? = some (.deferred (some [])) := (World.putObj_heap_other (by omega)).trans k2
  have s2 : Stay D _ (((W.setCell ⟨B, 0, none⟩ u).putObj E (.deferred none)).putObj D (.deferred none)) := Stay.putObj _ k3 rfl (Nat.le_refl _)
  exact ⟨k1, k3, (((hb.set u).stay s1).stay s2).1, below_stay (below_stay (h.setCell (p := ⟨B, 0, none⟩) hB u) s1 hEn) s2 hD⟩

set_option maxRecDepth 100000 in
set_option maxHeartbeats 4000000 in
theorem bitChooses_yes (n : Nat) (k stop : Int) (hn : n ≤ 10) (hk : 0 ≤ k) (hkn : k ≤ n) (hs : -9223372036854775808 ≤ stop ∧ stop ≤ 9223372036854775807) (w : World) :
    CallsIn Fence.wide 10 Try.prog 3 #[.int .i64 (n : Int), .int .i64 k, .int .i64 stop] w fun e w' => e = .returned (.bool true) ∧ Below w.heap.size w w' := by
  obtain ⟨N, hN, hNb, HN⟩ : ∃ N : Nat, (2 : Int) ^ n = (N : Int) ∧ N ≤ 1024 ∧ Hid (N = 2 ^ n) := ⟨2 ^ n, by simp, Nat.pow_le_pow_right (by decide) hn, rfl⟩
  have hsw : Hid (∀ (x : Nat) (_ : x < 18446744073709551616) (w : World), Calls Try.prog 6 #[.int .u64 (x : Int)] w fun e w' => e = .returned (.int .i64 (wt x : Int)) ∧ w' = w) := refWeight_any
  refine callsIn_of_wp_marks Try.func3 rfl trivial ?_ rfl
  simp only [Try.ntmps3, List.size_toArray, List.length_cons, List.length_nil, Nat.reduceAdd, Nat.reduceSub, Array.replicate_succ, Array.replicate_zero, List.push_toArray, List.append_toArray, List.nil_append, List.cons_append]
  refine wpIn_wide.2 ?_
  go_wp2_with fail
  obtain ⟨V0, hV0⟩ : ∃ V0, (((w.alloc (.cells #[.int .i64 (n : Int)] 3)).alloc (.cells #[.int .i64 k] 3)).alloc (.cells #[.int .i64 stop] 3)).alloc (.cells #[.bool false] 4) = V0 := ⟨_, rfl⟩
  obtain ⟨s0, a0, a1, a2, a3, hB0⟩ := four_boxes w _ _ _ _ _ _ _ _ V0 hV0
  rw [hV0]
  clear hV0
  refine (anchor_any _).mono ?_
  rintro e V1 ⟨rfl, hB1⟩
  have b0 := a0.below hB1 a0.lt
  have b1 := a1.below hB1 a1.lt
  have b2 := a2.below hB1 a2.lt
  have b3 := a3.below hB1 a3.lt
  have hB : Below w.heap.size w V1 := hB0.trans (hB1.mono (by omega))
  have s1 : w.heap.size + 4 ≤ V1.heap.size := by have := hB1.size; omega
  clear a0 a1 a2 a3 hB0 hB1 s0
  have c0 := b0.1; have c1 := b1.1; have c2 := b2.1; have c3 := b3.1
  have d1 : decide (10 < (n : Int)) = false := by simp; omega
  go_wp2
  go_loopw [7, 38] (fun wv xv wr => ∃ x c : Nat, x ≤ N ∧ c ≤ x ∧ xv = .int .u64 (x : Int) ∧ wv = .int .i64 (c : Int) ∧ Hid (cntW k x = c) ∧ Hid (∃ q, wr = V1.drewN q)) (fun _ xv _ => N - (intOf xv).toNat)
  case atStart => exact ⟨0, 0, by omega, by omega, rfl, rfl, rfl, ⟨0, rfl⟩⟩
  case round =>
    obtain ⟨x, c, hx, hc, rfl, rfl, Hc, Hq⟩ := hrel
    have c1r : wr.cell? ⟨w.heap.size + 1, 0, none⟩ = some (.int .i64 k) := by obtain ⟨q, rfl⟩ := Hq.out; exact c1
    by_cases hlt : x < N
    · obtain ⟨t, ht, Ht⟩ : ∃ t, t ≤ 64 ∧ Hid (wt x = t) := ⟨_, Bm.wt_le x, rfl⟩
      have hWt : Hid (∀ w, Calls Try.prog 6 #[.int .u64 (x : Int)] w fun e w' => e = .returned (.int .i64 (t : Int)) ∧ w' = w) := fun w => by rw [← Ht.out]; exact hsw.out x (by omega) w
      by_cases hp : (t : Int) = k
      · have hd : ((t : Int) == k) = true := by rw [hp]; simp
        have Hc' : Hid (cntW k (x + 1) = c + 1) := by show _ = _; rw [Bm.cntW_yes _ _ (by rw [Ht.out]; exact hp), Hc.out]
        go_wp2
        go_quiet ((go_at_call 6; exact Calls.quiet_of_same (hWt.out _)))
        go_wp2
        go_roundw
        case rel => exact ⟨x + 1, c + 1, by omega, by omega, by go_num, by go_num, Hc', by obtain ⟨q, rfl⟩ := Hq.out; exact ⟨_, World.drewN_drewN _ _ _⟩⟩
        case measure => simp [intOf]; omega
      · have hd : ((t : Int) == k) = false := by simpa using hp
        have Hc' : Hid (cntW k (x + 1) = c) := by show _ = _; rw [Bm.cntW_no _ _ (by rw [Ht.out]; exact hp), Hc.out]
        clear hp
        go_wp2
        go_quiet ((go_at_call 6; exact Calls.quiet_of_same (hWt.out _)))
        go_wp2
        go_roundw
        case rel => exact ⟨x + 1, c, by omega, by omega, by go_num, rfl, Hc', by obtain ⟨q, rfl⟩ := Hq.out; exact ⟨_, World.drewN_drewN _ _ _⟩⟩
        case measure => simp [intOf]; omega
    · obtain rfl : x = N := by omega
      obtain ⟨e0, e1, e2, e3, hBr, hSr⟩ : Box wr w.heap.size (.int .i64 (n : Int)) ∧ Box wr (w.heap.size + 1) (.int .i64 k) ∧ Box wr (w.heap.size + 1 + 1) (.int .i64 stop) ∧ Box wr (w.heap.size + 1 + 1 + 1) (.bool false) ∧ Below w.heap.size w wr ∧ w.heap.size + 4 ≤ wr.heap.size := by
        obtain ⟨q, rfl⟩ := Hq.out; exact ⟨b0, b1, b2, b3, below_drewN hB q, s1⟩
      clear b0 b1 b2 b3 hB s1 c0 c1 c2 c3 c1r Hq
      have HF : Hid (Four w.heap.size (.int .i64 (n : Int)) (.int .i64 k) (.int .i64 stop) (.bool false) w wr) := ⟨e0, e1, e2, e3, hBr⟩
      have c0 := e0.1; have c1 := e1.1; have c2 := e2.1; have c3 := e3.1
      have l0 : w.heap.size < wr.heap.size := by omega
      have l1 : w.heap.size + 1 < wr.heap.size := by omega
      have l2 : w.heap.size + 1 + 1 < wr.heap.size := by omega
      have l3 : w.heap.size + 1 + 1 + 1 < wr.heap.size := by omega
      clear e0 e1 e2 e3 hBr
      by_cases hs1 : 1 ≤ stop
      · obtain ⟨M, hM, rM, HM⟩ : ∃ M : Nat, min (c : Int) stop = (M : Int) ∧ M ≤ 1024 ∧ Hid ((1 ≤ stop ∧ (M : Int) = min (c : Int) stop) ∨ (stop < 1 ∧ M = c)) := ⟨min c stop.toNat, by omega, by omega, .inl ⟨hs1, by omega⟩⟩
        have hmin : ∀ (ts : Array TypeId) (t : TypeId) (w : World), (Builtin.min_ ts t #[.int .i64 (c : Int), .int .i64 stop]).run Try.prog w = .ok (.int .i64 (M : Int)) w := fun ts t w => run_minI _ _ _ hM ts t w
        clear hM
        go_wp2_with (first | (go_at_call 7; refine (choose64_yes _ _ (by omega) (by omega) (by omega) _).mono ?_; rintro e w' ⟨rfl, rfl⟩))
        clear c0 c1 c2 c3
        obtain ⟨V, hV⟩ : ∃ V, (((wr.alloc (.cells #[.int .i64 0] 3)).alloc (.cells #[.int .u64 0] 23)).alloc (.cells #[.int .i64 (n : Int)] 3)).alloc (.cells #[.int .i64 k] 3) = V := ⟨_, rfl⟩
        obtain ⟨sV, a0, a1, a2, a3, hBV⟩ := four_boxes wr _ _ _ _ _ _ _ _ V hV
        rw [hV]
        clear hV
        have hF := HF.out.on hBV (Nat.le_refl _) (by omega)
        clear HF
        refine (wpIn_wide (n := 10)).1 (rangeC rfl (enters_of Try.func14 (by kernel_rfl) rfl) (choose64_seq (wr.heap.size + 1 + 1) (wr.heap.size + 1 + 1 + 1) n (by omega) k V a2.lt a3.lt a2.1 a3.1) (fun _ => rfl)
          (fun b => b = wr.heap.size ∨ b = wr.heap.size + 1) (by rintro b (rfl | rfl) <;> constructor <;> omega) (by rintro b rfl; omega)
          (ChI w.heap.size wr.heap.size (n : Int) k stop w) (ChX w.heap.size wr.heap.size (n : Int) k stop w)
          (by rintro x A B ⟨h1, ⟨L, hL, h2, h3⟩, h4, h5⟩ hs; exact ⟨h1.stay hs, ⟨L, hL, h2, h3.stay hs⟩, h4.stay hs (by omega), h5⟩)
          (by rintro c x A B ⟨h1, h2, h3, h4, h5⟩ hs; exact ⟨h1, h2, h3, h4.stay hs, h5.stay hs (by omega)⟩)
          ⟨a0, ⟨0, by omega, .inr rfl, a1⟩, hF, by have : cntW k 0 = 0 := rfl; omega⟩
          (by rintro x W hx hp ⟨h1, ⟨L, hL, h2, h3⟩, h4, h5⟩; have e := Bm.cntW_no _ _ hp; exact ⟨by rw [e]; exact h1, ⟨L, hL, by rw [e]; omega, h3⟩, h4, by rw [e]; exact h5⟩) ?round ?done ?stop)
        case round =>
          rintro l y W W2 hy hp ⟨h1, ⟨L, hL, h2, h3⟩, hF, h5⟩
          have hyx : y < x := by rw [HN.out]; exact hy
          obtain ⟨cy, hcy, Hcy⟩ : ∃ cy, cy ≤ y ∧ Hid (cntW k y = cy) := ⟨_, Bm.cntW_le k y, rfl⟩
          have HcS : Hid (cntW k (y + 1) = cy + 1) := by show _ = _; rw [Bm.cntW_yes _ _ hp, Hcy.out]
          rw [Hcy.out] at h1 h2 h5
          have hWt : Hid (∀ w, Calls Try.prog 6 #[.int .u64 (y : Int)] w fun e w' => e = .returned (.int .i64 k) ∧ w' = w) := fun w => by rw [← hp]; exact hsw.out y (by omega) w
          have fin : Hid (∀ nq, Keep (fun b => b = wr.heap.size ∨ b = wr.heap.size + 1) W2 (((W2.drewN nq).setCell ⟨wr.heap.size + 1, 0, none⟩ (.int .u64 (y : Int))).setCell ⟨wr.heap.size, 0, none⟩ (.int .i64 ((cy : Int) + 1))) ∧
              Box (((W2.drewN nq).setCell ⟨wr.heap.size + 1, 0, none⟩ (.int .u64 (y : Int))).setCell ⟨wr.heap.size, 0, none⟩ (.int .i64 ((cy : Int) + 1))) wr.heap.size (.int .i64 ((cy : Int) + 1)) ∧
              Box (((W2.drewN nq).setCell ⟨wr.heap.size + 1, 0, none⟩ (.int .u64 (y : Int))).setCell ⟨wr.heap.size, 0, none⟩ (.int .i64 ((cy : Int) + 1))) (wr.heap.size + 1) (.int .u64 (y : Int)) ∧
              Four w.heap.size (.int .i64 (n : Int)) (.int .i64 k) (.int .i64 stop) (.bool false) w (((W2.drewN nq).setCell ⟨wr.heap.size + 1, 0, none⟩ (.int .u64 (y : Int))).setCell ⟨wr.heap.size, 0, none⟩ (.int .i64 ((cy : Int) + 1)))) := fun nq =>
            ⟨(((Keep.refl _ _).drewN nq).set (.inr rfl) _).set (.inl rfl) _, ((h1.drewN nq).other (by omega) _).set _, ((h3.drewN nq).set _).other (by omega) _, ((hF.drewN nq).set (by omega)).set (by omega)⟩
          have q0 := h1.1; have f0 := h1.2; have q1 := h3.1; have f1 := h3.2; have q2 := hF.b0.1; have q3 := hF.b1.1; have q4 := hF.b2.1
          have dN : decide ((x : Int) ≤ (y : Int)) = false := by simp; omega
          have dN2 : ¬ x ≤ y := by omega
          have dN3 : decide (x ≤ y) = false := by simp; omega
          have dk : (k != k) = false := by simp
          have hy1 : y ≤ 1024 := by omega
          have ns : wr.heap.size + 1 ≠ wr.heap.size := by omega
          clear hp hF h1 h3 hy a0 a1 a2 a3
          by_cases hc0 : cy = 0
          · subst hc0
            by_cases hst : (((0 : Nat) : Int) + 1 = stop)
            · have HS : Hid (((0 : Nat) : Int) + 1 = stop) := hst
              have e3 : (((0 : Nat) : Int) + 1 == stop) = true := by rw [beq_iff_eq]; exact hst
              clear hst
              gi_wp2
              try (refine ⟨trivial, ?_⟩; gi_wp2)
              refine quiet_round (by kernel_rfl) (by kernel_rfl) (by kernel_rfl) ?_
              repeat (go_big_quiet_step ((go_at_call 6; exact Calls.quiet_of_same (hWt.out _))))
              refine wpQuiet_nil ?_
              intro _ hw'
              obtain ⟨nq, hw''⟩ := hw'
              subst hw''
              gi_wp2
              obtain ⟨f1, f2, f3, f4⟩ := fin.out nq
              refine ⟨f1, rfl, hs1, ?_, ?_, f4⟩
              · have h1 := HcS.out; have h2 := HS.out; omega
              · rw [← HS.out]; exact f2
            · have HS : Hid (¬ ((0 : Nat) : Int) + 1 = stop) := hst
              have e3 : (((0 : Nat) : Int) + 1 == stop) = false := by rw [beq_eq_false_iff_ne]; exact hst
              clear hst
              gi_wp2
              try (refine ⟨trivial, ?_⟩; gi_wp2)
              refine quiet_round (by kernel_rfl) (by kernel_rfl) (by kernel_rfl) ?_
              repeat (go_big_quiet_step ((go_at_call 6; exact Calls.quiet_of_same (hWt.out _))))
              refine wpQuiet_nil ?_
              intro _ hw'
              obtain ⟨nq, hw''⟩ := hw'
              subst hw''
              gi_wp2
              obtain ⟨f1, f2, f3, f4⟩ := fin.out nq
              refine ⟨f1, ?_, ⟨y, by omega, .inl (by omega), f3⟩, f4, ?_⟩
              · rw [HcS.out]; exact f2
              · have h1 := HcS.out; have h2 := HS.out; omega
          · have hpos : 0 < cy := by omega
            have dL : decide ((y : Int) ≤ (L : Int)) = false := by simp; omega
            have dL2 : ¬ y ≤ L := by omega
            have dL3 : decide (y ≤ L) = false := by simp; omega
            have d0 : decide (0 < (cy : Int)) = true := by simp; omega
            by_cases hst : ((cy : Int) + 1 = stop)
            · have HS : Hid ((cy : Int) + 1 = stop) := hst
              have e3 : ((cy : Int) + 1 == stop) = true := by rw [beq_iff_eq]; exact hst
              clear hst
              gi_wp2
              try (refine ⟨trivial, ?_⟩; gi_wp2)
              refine quiet_round (by kernel_rfl) (by kernel_rfl) (by kernel_rfl) ?_
              repeat (go_big_quiet_step ((go_at_call 6; exact Calls.quiet_of_same (hWt.out _))))
              refine wpQuiet_nil ?_
              intro _ hw'
              obtain ⟨nq, hw''⟩ := hw'
              subst hw''
              gi_wp2
              obtain ⟨f1, f2, f3, f4⟩ := fin.out nq
              refine ⟨f1, rfl, hs1, ?_, ?_, f4⟩
              · have h1 := HcS.out; have h2 := HS.out; omega
              · rw [← HS.out]; exact f2
            · have HS : Hid (¬ (cy : Int) + 1 = stop) := hst
              have e3 : ((cy : Int) + 1 == stop) = false := by rw [beq_eq_false_iff_ne]; exact hst
              clear hst
              gi_wp2
              try (refine ⟨trivial, ?_⟩; gi_wp2)
              refine quiet_round (by kernel_rfl) (by kernel_rfl) (by kernel_rfl) ?_
              repeat (go_big_quiet_step ((go_at_call 6; exact Calls.quiet_of_same (hWt.out _))))
              refine wpQuiet_nil ?_
              intro _ hw'
              obtain ⟨nq, hw''⟩ := hw'
              subst hw''
              gi_wp2
              obtain ⟨f1, f2, f3, f4⟩ := fin.out nq
              refine ⟨f1, ?_, ⟨y, by omega, .inl (by omega), f3⟩, f4, ?_⟩
              · rw [HcS.out]; exact f2
              · have h1 := HcS.out; have h2 := HS.out; omega
        case done =>
          rintro D W hD ⟨h1, -, hF, h5⟩ hK
          have hM : cntW k (2 ^ n) = M := by rw [← HN.out, Hc.out]; have := HM.out; rw [← HN.out, Hc.out] at h5; omega
          rw [hM] at h1
          have hT : ChT w.heap.size wr.heap.size D (n : Int) k stop M w W := ⟨h1, hF, hK⟩
          clear h1 hF hM h5 a0 a1 a2 a3 hBV HM
          obtain ⟨c0, c1, l0, l1, lS, lD⟩ : W.cell? ⟨w.heap.size, 0, none⟩ = some (.int .i64 (n : Int)) ∧ W.cell? ⟨w.heap.size + 1, 0, none⟩ = some (.int .i64 k) ∧ w.heap.size < W.heap.size ∧ w.heap.size + 1 < W.heap.size ∧ wr.heap.size < W.heap.size ∧ D < W.heap.size :=
            ⟨hT.2.1.b0.1, hT.2.1.b1.1, hT.2.1.b0.lt, hT.2.1.b1.lt, hT.1.lt, (Array.getElem?_eq_some_iff.1 hT.2.2).1⟩
          have HT : Hid (ChT w.heap.size wr.heap.size D (n : Int) k stop M w W) := hT
          clear hT hK
          by_cases h8 : n ≤ 8
          · go_wp2_with (first | (go_at_call 8; refine (choose8_yes _ _ (by omega) (by omega) (by omega) _).mono ?_; rintro e w' ⟨rfl, rfl⟩))
            obtain ⟨V2, hV2⟩ : ∃ V2, (W.alloc (.cells #[.int .i64 (n : Int)] 3)).alloc (.cells #[.int .i64 k] 3) = V2 := ⟨_, rfl⟩
            obtain ⟨sV2, a0, a1, hSV2⟩ := two_boxes W _ _ _ _ V2 hV2
            rw [hV2]
            clear hV2 c0 c1
            refine (wpIn_wide (n := 10)).1 (rangeC rfl (enters_of Try.func17 (by kernel_rfl) rfl) (choose8_seq W.heap.size (W.heap.size + 1) n h8 k V2 a0.lt a1.lt a0.1 a1.1) (fun _ => rfl)
              (fun _ => False) (fun _ h => h.elim) (by rintro b rfl; omega)
              (fun _ => ChT w.heap.size wr.heap.size D (n : Int) k stop M w) (fun c _ W' => c = .exit 4 ∧ ChT w.heap.size wr.heap.size D (n : Int) k stop M w W')
              (fun _ A B h hs => h.stay hs (by omega) (by omega)) (fun _ _ A B h hs => ⟨h.1, h.2.stay hs (by omega) (by omega)⟩) (HT.out.stay hSV2 (by omega) (by omega))
              (fun _ _ _ _ h => h) ?round2 ?done2 ?stop2)
            case round2 =>
              rintro l y Wz W2 _ _ hT
              have c0 := hT.2.1.b0.1
              have HT2 : Hid (ChT w.heap.size wr.heap.size D (n : Int) k stop M w W2) := hT
              have d8 : decide (8 < (n : Int)) = false := by simp; omega
              have d8' : ¬ 8 < n := by omega
              clear hT
              gi_wp2
              try (refine ⟨trivial, ?_⟩; gi_wp2)
              exact ⟨Keep.refl _ _, rfl, HT2.out⟩
            case done2 =>
              rintro E W3 hE hT hK
              obtain ⟨k1, k2, k3, k4⟩ := leaves2 (u := .bool true) hT.2.1.b3 hT.2.2 hK (by omega) (by omega) (by omega) (by omega) (by omega) (by omega) hT.2.1.below
              have cS := hT.1.1; have cR := hT.2.1.b3.1; have fR := hT.2.1.b3.2
              clear hT hK
              go_wp2
              refine ⟨by simp, .inl ⟨_, _, rfl, run_takeDeferred k1, ⟨by simp, .inl ⟨_, _, rfl, run_takeDeferred k2, ?_⟩⟩⟩⟩
              refine ⟨.bool true, ?_, rfl, k4⟩
              simp [results, Try.f3, go_sem, k3]
            case stop2 =>
              rintro E cc y W3 hE _ _ ⟨rfl, hT⟩ hK
              refine wpIn_wide.2 ?_
              obtain ⟨k1, k2, k3, k4⟩ := leaves2 (u := .bool true) hT.2.1.b3 hT.2.2 hK (by omega) (by omega) (by omega) (by omega) (by omega) (by omega) hT.2.1.below
              have cS := hT.1.1; have cR := hT.2.1.b3.1; have fR := hT.2.1.b3.2
              clear hT hK
              go_wp2
              refine ⟨by simp, .inl ⟨_, _, rfl, run_takeDeferred k1, ⟨by simp, .inl ⟨_, _, rfl, run_takeDeferred k2, ?_⟩⟩⟩⟩
              refine ⟨.bool true, ?_, rfl, k4⟩
              simp [results, Try.f3, go_sem, k3]
          · have h8' : ¬ (0 ≤ k ∧ k ≤ (n : Int) ∧ (n : Int) ≤ 8) := by omega
            have H8 : Hid (¬ (0 ≤ k ∧ k ≤ (n : Int) ∧ (n : Int) ≤ 8)) := h8'
            clear h8'
            go_wp2_with (first | (go_at_call 8; refine (choose8_no _ _ H8.out _).mono ?_; rintro e w' ⟨rfl, rfl⟩))
            obtain ⟨V2, hV2⟩ : ∃ V2, (W.alloc (.cells #[.int .i64 (n : Int)] 3)).alloc (.cells #[.int .i64 k] 3) = V2 := ⟨_, rfl⟩
            obtain ⟨sV2, a0, a1, hSV2⟩ := two_boxes W _ _ _ _ V2 hV2
            rw [hV2]
            clear hV2 c0 c1
            refine (wpIn_wide (n := 10)).1 (rangeC rfl (enters_of Try.func16 (by kernel_rfl) rfl) (choose8_none (fun x => #[.int .u8 (x : Int)]) (fun _ => True) (fun _ => False) V2) (fun _ => rfl)
              (fun _ => False) (fun _ h => h.elim) (fun _ h => h.elim)
              (fun _ => ChT w.heap.size wr.heap.size D (n : Int) k stop M w) (fun _ _ _ => False)
              (fun _ A B h hs => h.stay hs (by omega) (by omega)) (fun _ _ A B h hs => h.elim) (HT.out.stay hSV2 (by omega) (by omega))
              (fun _ _ _ _ h => h) (fun _ _ _ _ h => absurd h (by omega)) ?done2 (fun _ _ _ _ _ h => absurd h (by omega)))
            case done2 =>
              rintro E W3 hE hT hK
              obtain ⟨k1, k2, k3, k4⟩ := leaves2 (u := .bool true) hT.2.1.b3 hT.2.2 hK (by omega) (by omega) (by omega) (by omega) (by omega) (by omega) hT.2.1.below
              have cS := hT.1.1; have cR := hT.2.1.b3.1; have fR := hT.2.1.b3.2
              clear hT hK
              go_wp2
              refine ⟨by simp, .inl ⟨_, _, rfl, run_takeDeferred k1, ⟨by simp, .inl ⟨_, _, rfl, run_takeDeferred k2, ?_⟩⟩⟩⟩
              refine ⟨.bool true, ?_, rfl, k4⟩
              simp [results, Try.f3, go_sem, k3]
        case stop =>
          rintro D cc y W hD hy hp ⟨rfl, h1, h2, h3, hF⟩ hK
          have hM : (M : Int) = stop := by have := Bm.cntW_mono k (y + 1) (2 ^ n) (by omega); rw [← HN.out, Hc.out] at this; have := HM.out; omega
          rw [← hM] at h3
          have hT : ChT w.heap.size wr.heap.size D (n : Int) k stop M w W := ⟨h3, hF, hK⟩
          clear h1 h2 h3 hF hM hy hp a0 a1 a2 a3 hBV HM
          refine wpIn_wide.2 ?_
          obtain ⟨c0, c1, l0, l1, lS, lD⟩ : W.cell? ⟨w.heap.size, 0, none⟩ = some (.int .i64 (n : Int)) ∧ W.cell? ⟨w.heap.size + 1, 0, none⟩ = some (.int .i64 k) ∧ w.heap.size < W.heap.size ∧ w.heap.size + 1 < W.heap.size ∧ wr.heap.size < W.heap.size ∧ D < W.heap.size :=
            ⟨hT.2.1.b0.1, hT.2.1.b1.1, hT.2.1.b0.lt, hT.2.1.b1.lt, hT.1.lt, (Array.getElem?_eq_some_iff.1 hT.2.2).1⟩
          have HT : Hid (ChT w.heap.size wr.heap.size D (n : Int) k stop M w W) := hT
          clear hT hK
          by_cases h8 : n ≤ 8
          · go_wp2_with (first | (go_at_call 8; refine (choose8_yes _ _ (by omega) (by omega) (by omega) _).mono ?_; rintro e w' ⟨rfl, rfl⟩))
            obtain ⟨V2, hV2⟩ : ∃ V2, (W.alloc (.cells #[.int .i64 (n : Int)] 3)).alloc (.cells #[.int .i64 k] 3) = V2 := ⟨_, rfl⟩
            obtain ⟨sV2, a0, a1, hSV2⟩ := two_boxes W _ _ _ _ V2 hV2
            rw [hV2]
            clear hV2 c0 c1
            refine (wpIn_wide (n := 10)).1 (rangeC rfl (enters_of Try.func17 (by kernel_rfl) rfl) (choose8_seq W.heap.size (W.heap.size + 1) n h8 k V2 a0.lt a1.lt a0.1 a1.1) (fun _ => rfl)
              (fun _ => False) (fun _ h => h.elim) (by rintro b rfl; omega)
              (fun _ => ChT w.heap.size wr.heap.size D (n : Int) k stop M w) (fun c _ W' => c = .exit 4 ∧ ChT w.heap.size wr.heap.size D (n : Int) k stop M w W')
              (fun _ A B h hs => h.stay hs (by omega) (by omega)) (fun _ _ A B h hs => ⟨h.1, h.2.stay hs (by omega) (by omega)⟩) (HT.out.stay hSV2 (by omega) (by omega))
              (fun _ _ _ _ h => h) ?round2 ?done2 ?stop2)
            case round2 =>
              rintro l y Wz W2 _ _ hT
              have c0 := hT.2.1.b0.1
              have HT2 : Hid (ChT w.heap.size wr.heap.size D (n : Int) k stop M w W2) := hT
              have d8 : decide (8 < (n : Int)) = false := by simp; omega
              have d8' : ¬ 8 < n := by omega
              clear hT
              gi_wp2
              try (refine ⟨trivial, ?_⟩; gi_wp2)
              exact ⟨Keep.refl _ _, rfl, HT2.out⟩
            case done2 =>
              rintro E W3 hE hT hK
              obtain ⟨k1, k2, k3, k4⟩ := leaves2 (u := .bool true) hT.2.1.b3 hT.2.2 hK (by omega) (by omega) (by omega) (by omega) (by omega) (by omega) hT.2.1.below
              have cS := hT.1.1; have cR := hT.2.1.b3.1; have fR := hT.2.1.b3.2
              clear hT hK
              go_wp2
              refine ⟨by simp, .inl ⟨_, _, rfl, run_takeDeferred k1, ⟨by simp, .inl ⟨_, _, rfl, run_takeDeferred k2, ?_⟩⟩⟩⟩
              refine ⟨.bool true, ?_, rfl, k4⟩
              simp [results, Try.f3, go_sem, k3]
            case stop2 =>
              rintro E cc y W3 hE _ _ ⟨rfl, hT⟩ hK
              refine wpIn_wide.2 ?_
              obtain ⟨k1, k2, k3, k4⟩ := leaves2 (u := .bool true) hT.2.1.b3 hT.2.2 hK (by omega) (by omega) (by omega) (by omega) (by omega) (by omega) hT.2.1.below
              have cS := hT.1.1; have cR := hT.2.1.b3.1; have fR := hT.2.1.b3.2
              clear hT hK
              go_wp2
              refine ⟨by simp, .inl ⟨_, _, rfl, run_takeDeferred k1, ⟨by simp, .inl ⟨_, _, rfl, run_takeDeferred k2, ?_⟩⟩⟩⟩
              refine ⟨.bool true, ?_, rfl, k4⟩
              simp [results, Try.f3, go_sem, k3]
          · have h8' : ¬ (0 ≤ k ∧ k ≤ (n : Int) ∧ (n : Int) ≤ 8) := by omega
            have H8 : Hid (¬ (0 ≤ k ∧ k ≤ (n : Int) ∧ (n : Int) ≤ 8)) := h8'
            clear h8'
            go_wp2_with (first | (go_at_call 8; refine (choose8_no _ _ H8.out _).mono ?_; rintro e w' ⟨rfl, rfl⟩))
            obtain ⟨V2, hV2⟩ : ∃ V2, (W.alloc (.cells #[.int .i64 (n : Int)] 3)).alloc (.cells #[.int .i64 k] 3) = V2 := ⟨_, rfl⟩
            obtain ⟨sV2, a0, a1, hSV2⟩ := two_boxes W _ _ _ _ V2 hV2
            rw [hV2]
            clear hV2 c0 c1
            refine (wpIn_wide (n := 10)).1 (rangeC rfl (enters_of Try.func16 (by kernel_rfl) rfl) (choose8_none (fun x => #[.int .u8 (x : Int)]) (fun _ => True) (fun _ => False) V2) (fun _ => rfl)
              (fun _ => False) (fun _ h => h.elim) (fun _ h => h.elim)
              (fun _ => ChT w.heap.size wr.heap.size D (n : Int) k stop M w) (fun _ _ _ => False)
              (fun _ A B h hs => h.stay hs (by omega) (by omega)) (fun _ _ A B h hs => h.elim) (HT.out.stay hSV2 (by omega) (by omega))
              (fun _ _ _ _ h => h) (fun _ _ _ _ h => absurd h (by omega)) ?done2 (fun _ _ _ _ _ h => absurd h (by omega)))
            case done2 =>
              rintro E W3 hE hT hK
              obtain ⟨k1, k2, k3, k4⟩ := leaves2 (u := .bool true) hT.2.1.b3 hT.2.2 hK (by omega) (by omega) (by omega) (by omega) (by omega) (by omega) hT.2.1.below
              have cS := hT.1.1; have cR := hT.2.1.b3.1; have fR := hT.2.1.b3.2
              clear hT hK
              go_wp2
              refine ⟨by simp, .inl ⟨_, _, rfl, run_takeDeferred k1, ⟨by simp, .inl ⟨_, _, rfl, run_takeDeferred k2, ?_⟩⟩⟩⟩
              refine ⟨.bool true, ?_, rfl, k4⟩
              simp [results, Try.f3, go_sem, k3]
      · obtain ⟨M, rM, hM, HM⟩ : ∃ M : Nat, M ≤ 1024 ∧ M = c ∧ Hid ((1 ≤ stop ∧ (M : Int) = min (c : Int) stop) ∨ (stop < 1 ∧ M = c)) := ⟨c, by omega, rfl, .inr ⟨by omega, rfl⟩⟩
        have dS : decide (1 ≤ stop) = false := by simp; omega
        subst hM
        go_wp2_with (first | (go_at_call 7; refine (choose64_yes _ _ (by omega) (by omega) (by omega) _).mono ?_; rintro e w' ⟨rfl, rfl⟩))
        clear c0 c1 c2 c3
        obtain ⟨V, hV⟩ : ∃ V, (((wr.alloc (.cells #[.int .i64 0] 3)).alloc (.cells #[.int .u64 0] 23)).alloc (.cells #[.int .i64 (n : Int)] 3)).alloc (.cells #[.int .i64 k] 3) = V := ⟨_, rfl⟩
        obtain ⟨sV, a0, a1, a2, a3, hBV⟩ := four_boxes wr _ _ _ _ _ _ _ _ V hV
        rw [hV]
        clear hV
        have hF := HF.out.on hBV (Nat.le_refl _) (by omega)
        clear HF
        refine (wpIn_wide (n := 10)).1 (rangeC rfl (enters_of Try.func14 (by kernel_rfl) rfl) (choose64_seq (wr.heap.size + 1 + 1) (wr.heap.size + 1 + 1 + 1) n (by omega) k V a2.lt a3.lt a2.1 a3.1) (fun _ => rfl)
          (fun b => b = wr.heap.size ∨ b = wr.heap.size + 1) (by rintro b (rfl | rfl) <;> constructor <;> omega) (by rintro b rfl; omega)
          (ChI w.heap.size wr.heap.size (n : Int) k stop w) (ChX w.heap.size wr.heap.size (n : Int) k stop w)
          (by rintro x A B ⟨h1, ⟨L, hL, h2, h3⟩, h4, h5⟩ hs; exact ⟨h1.stay hs, ⟨L, hL, h2, h3.stay hs⟩, h4.stay hs (by omega), h5⟩)
          (by rintro c x A B ⟨h1, h2, h3, h4, h5⟩ hs; exact ⟨h1, h2, h3, h4.stay hs, h5.stay hs (by omega)⟩)
          ⟨a0, ⟨0, by omega, .inr rfl, a1⟩, hF, by have : cntW k 0 = 0 := rfl; omega⟩
          (by rintro x W hx hp ⟨h1, ⟨L, hL, h2, h3⟩, h4, h5⟩; have e := Bm.cntW_no _ _ hp; exact ⟨by rw [e]; exact h1, ⟨L, hL, by rw [e]; omega, h3⟩, h4, by rw [e]; exact h5⟩) ?round ?done ?stop)
        case round =>
          rintro l y W W2 hy hp ⟨h1, ⟨L, hL, h2, h3⟩, hF, h5⟩
          have hyx : y < x := by rw [HN.out]; exact hy
          obtain ⟨cy, hcy, Hcy⟩ : ∃ cy, cy ≤ y ∧ Hid (cntW k y = cy) := ⟨_, Bm.cntW_le k y, rfl⟩
          have HcS : Hid (cntW k (y + 1) = cy + 1) := by show _ = _; rw [Bm.cntW_yes _ _ hp, Hcy.out]
          rw [Hcy.out] at h1 h2 h5
          have hWt : Hid (∀ w, Calls Try.prog 6 #[.int .u64 (y : Int)] w fun e w' => e = .returned (.int .i64 k) ∧ w' = w) := fun w => by rw [← hp]; exact hsw.out y (by omega) w
          have fin : Hid (∀ nq, Keep (fun b => b = wr.heap.size ∨ b = wr.heap.size + 1) W2 (((W2.drewN nq).setCell ⟨wr.heap.size + 1, 0, none⟩ (.int .u64 (y : Int))).setCell ⟨wr.heap.size, 0, none⟩ (.int .i64 ((cy : Int) + 1))) ∧
              Box (((W2.drewN nq).setCell ⟨wr.heap.size + 1, 0, none⟩ (.int .u64 (y : Int))).setCell ⟨wr.heap.size, 0, none⟩ (.int .i64 ((cy : Int) + 1))) wr.heap.size (.int .i64 ((cy : Int) + 1)) ∧
              Box (((W2.drewN nq).setCell ⟨wr.heap.size + 1, 0, none⟩ (.int .u64 (y : Int))).setCell ⟨wr.heap.size, 0, none⟩ (.int .i64 ((cy : Int) + 1))) (wr.heap.size + 1) (.int .u64 (y : Int)) ∧
              Four w.heap.size (.int .i64 (n : Int)) (.int .i64 k) (.int .i64 stop) (.bool false) w (((W2.drewN nq).setCell ⟨wr.heap.size + 1, 0, none⟩ (.int .u64 (y : Int))).setCell ⟨wr.heap.size, 0, none⟩ (.int .i64 ((cy : Int) + 1)))) := fun nq =>
            ⟨(((Keep.refl _ _).drewN nq).set (.inr rfl) _).set (.inl rfl) _, ((h1.drewN nq).other (by omega) _).set _, ((h3.drewN nq).set _).other (by omega) _, ((hF.drewN nq).set (by omega)).set (by omega)⟩
          have q0 := h1.1; have f0 := h1.2; have q1 := h3.1; have f1 := h3.2; have q2 := hF.b0.1; have q3 := hF.b1.1; have q4 := hF.b2.1
          have dN : decide ((x : Int) ≤ (y : Int)) = false := by simp; omega
          have dN2 : ¬ x ≤ y := by omega
          have dN3 : decide (x ≤ y) = false := by simp; omega
          have dk : (k != k) = false := by simp
          have hy1 : y ≤ 1024 := by omega
          have ns : wr.heap.size + 1 ≠ wr.heap.size := by omega
          clear hp hF h1 h3 hy a0 a1 a2 a3
          by_cases hc0 : cy = 0
          · subst hc0
            by_cases hst : (((0 : Nat) : Int) + 1 = stop)
            · exact absurd hst (by omega)
            · have HS : Hid (¬ ((0 : Nat) : Int) + 1 = stop) := hst
              have e3 : (((0 : Nat) : Int) + 1 == stop) = false := by rw [beq_eq_false_iff_ne]; exact hst
              clear hst
              gi_wp2
              try (refine ⟨trivial, ?_⟩; gi_wp2)
              refine quiet_round (by kernel_rfl) (by kernel_rfl) (by kernel_rfl) ?_
              repeat (go_big_quiet_step ((go_at_call 6; exact Calls.quiet_of_same (hWt.out _))))
              refine wpQuiet_nil ?_
              intro _ hw'
              obtain ⟨nq, hw''⟩ := hw'
              subst hw''
              gi_wp2
              obtain ⟨f1, f2, f3, f4⟩ := fin.out nq
              refine ⟨f1, ?_, ⟨y, by omega, .inl (by omega), f3⟩, f4, ?_⟩
              · rw [HcS.out]; exact f2
              · have h1 := HcS.out; have h2 := HS.out; omega
          · have hpos : 0 < cy := by omega
            have dL : decide ((y : Int) ≤ (L : Int)) = false := by simp; omega
            have dL2 : ¬ y ≤ L := by omega
            have dL3 : decide (y ≤ L) = false := by simp; omega
            have d0 : decide (0 < (cy : Int)) = true := by simp; omega
            by_cases hst : ((cy : Int) + 1 = stop)
            · exact absurd hst (by omega)
            · have HS : Hid (¬ (cy : Int) + 1 = stop) := hst
              have e3 : ((cy : Int) + 1 == stop) = false := by rw [beq_eq_false_iff_ne]; exact hst
              clear hst
              gi_wp2
              try (refine ⟨trivial, ?_⟩; gi_wp2)
              refine quiet_round (by kernel_rfl) (by kernel_rfl) (by kernel_rfl) ?_
              repeat (go_big_quiet_step ((go_at_call 6; exact Calls.quiet_of_same (hWt.out _))))
              refine wpQuiet_nil ?_
              intro _ hw'
              obtain ⟨nq, hw''⟩ := hw'
              subst hw''
              gi_wp2
              obtain ⟨f1, f2, f3, f4⟩ := fin.out nq
              refine ⟨f1, ?_, ⟨y, by omega, .inl (by omega), f3⟩, f4, ?_⟩
              · rw [HcS.out]; exact f2
              · have h1 := HcS.out; have h2 := HS.out; omega
        case done =>
          rintro D W hD ⟨h1, -, hF, h5⟩ hK
          have hM : cntW k (2 ^ n) = M := by rw [← HN.out, Hc.out]
          rw [hM] at h1
          have hT : ChT w.heap.size wr.heap.size D (n : Int) k stop M w W := ⟨h1, hF, hK⟩
          clear h1 hF hM h5 a0 a1 a2 a3 hBV HM
          obtain ⟨c0, c1, l0, l1, lS, lD⟩ : W.cell? ⟨w.heap.size, 0, none⟩ = some (.int .i64 (n : Int)) ∧ W.cell? ⟨w.heap.size + 1, 0, none⟩ = some (.int .i64 k) ∧ w.heap.size < W.heap.size ∧ w.heap.size + 1 < W.heap.size ∧ wr.heap.size < W.heap.size ∧ D < W.heap.size :=
            ⟨hT.2.1.b0.1, hT.2.1.b1.1, hT.2.1.b0.lt, hT.2.1.b1.lt, hT.1.lt, (Array.getElem?_eq_some_iff.1 hT.2.2).1⟩
          have HT : Hid (ChT w.heap.size wr.heap.size D (n : Int) k stop M w W) := hT
          clear hT hK
          by_cases h8 : n ≤ 8
          · go_wp2_with (first | (go_at_call 8; refine (choose8_yes _ _ (by omega) (by omega) (by omega) _).mono ?_; rintro e w' ⟨rfl, rfl⟩))
            obtain ⟨V2, hV2⟩ : ∃ V2, (W.alloc (.cells #[.int .i64 (n : Int)] 3)).alloc (.cells #[.int .i64 k] 3) = V2 := ⟨_, rfl⟩
            obtain ⟨sV2, a0, a1, hSV2⟩ := two_boxes W _ _ _ _ V2 hV2
            rw [hV2]
            clear hV2 c0 c1
            refine (wpIn_wide (n := 10)).1 (rangeC rfl (enters_of Try.func17 (by kernel_rfl) rfl) (choose8_seq W.heap.size (W.heap.size + 1) n h8 k V2 a0.lt a1.lt a0.1 a1.1) (fun _ => rfl)
              (fun _ => False) (fun _ h => h.elim) (by rintro b rfl; omega)
              (fun _ => ChT w.heap.size wr.heap.size D (n : Int) k stop M w) (fun c _ W' => c = .exit 4 ∧ ChT w.heap.size wr.heap.size D (n : Int) k stop M w W')
              (fun _ A B h hs => h.stay hs (by omega) (by omega)) (fun _ _ A B h hs => ⟨h.1, h.2.stay hs (by omega) (by omega)⟩) (HT.out.stay hSV2 (by omega) (by omega))
              (fun _ _ _ _ h => h) ?round2 ?done2 ?stop2)
            case round2 =>
              rintro l y Wz W2 _ _ hT
              have c0 := hT.2.1.b0.1
              have HT2 : Hid (ChT w.heap.size wr.heap.size D (n : Int) k stop M w W2) := hT
              have d8 : decide (8 < (n : Int)) = false := by simp; omega
              have d8' : ¬ 8 < n := by omega
              clear hT
              gi_wp2
              try (refine ⟨trivial, ?_⟩; gi_wp2)
              exact ⟨Keep.refl _ _, rfl, HT2.out⟩
            case done2 =>
              rintro E W3 hE hT hK
              obtain ⟨k1, k2, k3, k4⟩ := leaves2 (u := .bool true) hT.2.1.b3 hT.2.2 hK (by omega) (by omega) (by omega) (by omega) (by omega) (by omega) hT.2.1.below
              have cS := hT.1.1; have cR := hT.2.1.b3.1; have fR := hT.2.1.b3.2
              clear hT hK
              go_wp2
              refine ⟨by simp, .inl ⟨_, _, rfl, run_takeDeferred k1, ⟨by simp, .inl ⟨_, _, rfl, run_takeDeferred k2, ?_⟩⟩⟩⟩
              refine ⟨.bool true, ?_, rfl, k4⟩
              simp [results, Try.f3, go_sem, k3]
            case stop2 =>
              rintro E cc y W3 hE _ _ ⟨rfl, hT⟩ hK
              refine wpIn_wide.2 ?_
              obtain ⟨k1, k2, k3, k4⟩ := leaves2 (u := .bool true) hT.2.1.b3 hT.2.2 hK (by omega) (by omega) (by omega) (by omega) (by omega) (by omega) hT.2.1.below
              have cS := hT.1.1; have cR := hT.2.1.b3.1; have fR := hT.2.1.b3.2
              clear hT hK
              go_wp2
              refine ⟨by simp, .inl ⟨_, _, rfl, run_takeDeferred k1, ⟨by simp, .inl ⟨_, _, rfl, run_takeDeferred k2, ?_⟩⟩⟩⟩
              refine ⟨.bool true, ?_, rfl, k4⟩
              simp [results, Try.f3, go_sem, k3]
          · have h8' : ¬ (0 ≤ k ∧ k ≤ (n : Int) ∧ (n : Int) ≤ 8) := by omega
            have H8 : Hid (¬ (0 ≤ k ∧ k ≤ (n : Int) ∧ (n : Int) ≤ 8)) := h8'
            clear h8'
            go_wp2_with (first | (go_at_call 8; refine (choose8_no _ _ H8.out _).mono ?_; rintro e w' ⟨rfl, rfl⟩))
            obtain ⟨V2, hV2⟩ : ∃ V2, (W.alloc (.cells #[.int .i64 (n : Int)] 3)).alloc (.cells #[.int .i64 k] 3) = V2 := ⟨_, rfl⟩
            obtain ⟨sV2, a0, a1, hSV2⟩ := two_boxes W _ _ _ _ V2 hV2
            rw [hV2]
            clear hV2 c0 c1
            refine (wpIn_wide (n := 10)).1 (rangeC rfl (enters_of Try.func16 (by kernel_rfl) rfl) (choose8_none (fun x => #[.int .u8 (x : Int)]) (fun _ => True) (fun _ => False) V2) (fun _ => rfl)
              (fun _ => False) (fun _ h => h.elim) (fun _ h => h.elim)
              (fun _ => ChT w.heap.size wr.heap.size D (n : Int) k stop M w) (fun _ _ _ => False)
              (fun _ A B h hs => h.stay hs (by omega) (by omega)) (fun _ _ A B h hs => h.elim) (HT.out.stay hSV2 (by omega) (by omega))
              (fun _ _ _ _ h => h) (fun _ _ _ _ h => absurd h (by omega)) ?done2 (fun _ _ _ _ _ h => absurd h (by omega)))
            case done2 =>
              rintro E W3 hE hT hK
              obtain ⟨k1, k2, k3, k4⟩ := leaves2 (u := .bool true) hT.2.1.b3 hT.2.2 hK (by omega) (by omega) (by omega) (by omega) (by omega) (by omega) hT.2.1.below
              have cS := hT.1.1; have cR := hT.2.1.b3.1; have fR := hT.2.1.b3.2
              clear hT hK
              go_wp2
              refine ⟨by simp, .inl ⟨_, _, rfl, run_takeDeferred k1, ⟨by simp, .inl ⟨_, _, rfl, run_takeDeferred k2, ?_⟩⟩⟩⟩
              refine ⟨.bool true, ?_, rfl, k4⟩
              simp [results, Try.f3, go_sem, k3]
        case stop =>
          rintro D cc y W hD hy hp ⟨rfl, h1, h2, h3, hF⟩ hK
          omega

set_option maxRecDepth 100000 in
set_option maxHeartbeats 4000000 in
theorem bitChooses_no (n k stop : Int) (h64 : ¬ (0 ≤ k ∧ k ≤ n ∧ n ≤ 16)) (h10 : ¬ (10 < n ∧ n ≤ 16)) (w : World) :
    CallsIn Fence.wide 10 Try.prog 3 #[.int .i64 n, .int .i64 k, .int .i64 stop] w fun e w' => e = .returned (.bool true) ∧ Below w.heap.size w w' := by
  have H64 : Hid (¬ (0 ≤ k ∧ k ≤ n ∧ n ≤ 16)) := h64
  have H8 : Hid (¬ (0 ≤ k ∧ k ≤ n ∧ n ≤ 8)) := by show ¬ _; omega
  refine callsIn_of_wp_marks Try.func3 rfl trivial ?_ rfl
  simp only [Try.ntmps3, List.size_toArray, List.length_cons, List.length_nil, Nat.reduceAdd, Nat.reduceSub, Array.replicate_succ, Array.replicate_zero, List.push_toArray, List.append_toArray, List.nil_append, List.cons_append]
  refine wpIn_wide.2 ?_
  go_wp2_with fail
  obtain ⟨V0, hV0⟩ : ∃ V0, (((w.alloc (.cells #[.int .i64 n] 3)).alloc (.cells #[.int .i64 k] 3)).alloc (.cells #[.int .i64 stop] 3)).alloc (.cells #[.bool false] 4) = V0 := ⟨_, rfl⟩
  obtain ⟨s0, a0, a1, a2, a3, hB0⟩ := four_boxes w _ _ _ _ _ _ _ _ V0 hV0
  rw [hV0]
  clear hV0
  refine (anchor_any _).mono ?_
  rintro e V1 ⟨rfl, hB1⟩
  have b0 := a0.below hB1 a0.lt
  have b1 := a1.below hB1 a1.lt
  have b2 := a2.below hB1 a2.lt
  have b3 := a3.below hB1 a3.lt
  have hB : Below w.heap.size w V1 := hB0.trans (hB1.mono (by omega))
  have s1 : w.heap.size + 4 ≤ V1.heap.size := by have := hB1.size; omega
  clear a0 a1 a2 a3 hB0 hB1 s0
  have c0 := b0.1; have c1 := b1.1; have c2 := b2.1; have c3 := b3.1
  have HF : Hid (Four w.heap.size (.int .i64 n) (.int .i64 k) (.int .i64 stop) (.bool false) w V1) := ⟨b0, b1, b2, b3, hB⟩
  have l0 : w.heap.size < V1.heap.size := by omega
  have l1 : w.heap.size + 1 < V1.heap.size := by omega
  have l2 : w.heap.size + 1 + 1 < V1.heap.size := by omega
  have l3 : w.heap.size + 1 + 1 + 1 < V1.heap.size := by omega
  clear b0 b1 b2 b3 hB
  have hways : (n < 0) ∨ (16 < n) ∨ (0 ≤ n ∧ n ≤ 10 ∧ k < 0) ∨ (0 ≤ n ∧ n ≤ 10 ∧ 0 ≤ k ∧ n < k) := by omega
  clear h64 h10
  rcases hways with h1 | h1 | ⟨h1, h2, h3⟩ | ⟨h1, h2, h3, h4⟩
  · skip
    have q1 : decide (10 < n) = false := by simp; omega
    have q2 : decide (0 ≤ n) = false := by simp; omega
    by_cases hs1 : 1 ≤ stop
    · have hmin : ∀ (ts : Array TypeId) (t : TypeId) (w : World), (Builtin.min_ ts t #[.int .i64 0, .int .i64 stop]).run Try.prog w = .ok (.int .i64 0) w := fun ts t w => run_minI _ _ _ (by omega) ts t w
      go_wp2_with (first | (go_at_call 7; refine (choose64_no _ _ H64.out _).mono ?_; rintro e w' ⟨rfl, rfl⟩))
      clear c0 c1 c2 c3
      obtain ⟨V, hV⟩ : ∃ V, (((V1.alloc (.cells #[.int .i64 0] 3)).alloc (.cells #[.int .u64 0] 23)).alloc (.cells #[.int .i64 n] 3)).alloc (.cells #[.int .i64 k] 3) = V := ⟨_, rfl⟩
      obtain ⟨sV, a0, a1, a2, a3, hBV⟩ := four_boxes V1 _ _ _ _ _ _ _ _ V hV
      rw [hV]
      clear hV
      have hF := HF.out.on hBV (Nat.le_refl _) (by omega)
      clear HF
      refine (wpIn_wide (n := 10)).1 (rangeC rfl (enters_of Try.func13 (by kernel_rfl) rfl) (choose64_none (fun x => #[.int .u64 (x : Int)]) (fun _ => True) (fun _ => False) V) (fun _ => rfl)
        (fun _ => False) (fun _ h => h.elim) (fun _ h => h.elim)
        (fun _ W => Box W V1.heap.size (.int .i64 ((0 : Nat) : Int)) ∧ Four w.heap.size (.int .i64 n) (.int .i64 k) (.int .i64 stop) (.bool false) w W) (fun _ _ _ => False)
        (fun _ A B h hs => ⟨h.1.stay hs, h.2.stay hs (by omega)⟩) (fun _ _ A B h hs => h.elim) ⟨a0, hF⟩
        (fun _ _ _ _ h => h) (fun _ _ _ _ h => absurd h (by omega)) ?done (fun _ _ _ _ _ h => absurd h (by omega)))
      case done =>
          rintro D W hD ⟨hS, hF⟩ hK
          have hT : ChT w.heap.size V1.heap.size D n k stop 0 w W := ⟨hS, hF, hK⟩
          clear hS hF a0 a1 a2 a3 hBV
          obtain ⟨c0, c1, l0, l1, lS, lD⟩ : W.cell? ⟨w.heap.size, 0, none⟩ = some (.int .i64 n) ∧ W.cell? ⟨w.heap.size + 1, 0, none⟩ = some (.int .i64 k) ∧ w.heap.size < W.heap.size ∧ w.heap.size + 1 < W.heap.size ∧ V1.heap.size < W.heap.size ∧ D < W.heap.size :=
            ⟨hT.2.1.b0.1, hT.2.1.b1.1, hT.2.1.b0.lt, hT.2.1.b1.lt, hT.1.lt, (Array.getElem?_eq_some_iff.1 hT.2.2).1⟩
          have HT : Hid (ChT w.heap.size V1.heap.size D n k stop 0 w W) := hT
          clear hT hK
          go_wp2_with (first | (go_at_call 8; refine (choose8_no _ _ H8.out _).mono ?_; rintro e w' ⟨rfl, rfl⟩))
          obtain ⟨V2, hV2⟩ : ∃ V2, (W.alloc (.cells #[.int .i64 n] 3)).alloc (.cells #[.int .i64 k] 3) = V2 := ⟨_, rfl⟩
          obtain ⟨sV2, a0, a1, hSV2⟩ := two_boxes W _ _ _ _ V2 hV2
          rw [hV2]
          clear hV2 c0 c1
          refine (wpIn_wide (n := 10)).1 (rangeC rfl (enters_of Try.func16 (by kernel_rfl) rfl) (choose8_none (fun x => #[.int .u8 (x : Int)]) (fun _ => True) (fun _ => False) V2) (fun _ => rfl)
            (fun _ => False) (fun _ h => h.elim) (fun _ h => h.elim)
            (fun _ => ChT w.heap.size V1.heap.size D n k stop 0 w) (fun _ _ _ => False)
            (fun _ A B h hs => h.stay hs (by omega) (by omega)) (fun _ _ A B h hs => h.elim) (HT.out.stay hSV2 (by omega) (by omega))
            (fun _ _ _ _ h => h) (fun _ _ _ _ h => absurd h (by omega)) ?done2 (fun _ _ _ _ _ h => absurd h (by omega)))
          case done2 =>
            rintro E W3 hE hT hK
            obtain ⟨k1, k2, k3, k4⟩ := leaves2 (u := .bool true) hT.2.1.b3 hT.2.2 hK (by omega) (by omega) (by omega) (by omega) (by omega) (by omega) hT.2.1.below
            have cS := hT.1.1; have cR := hT.2.1.b3.1; have fR := hT.2.1.b3.2
            clear hT hK
            go_wp2
            refine ⟨by simp, .inl ⟨_, _, rfl, run_takeDeferred k1, ⟨by simp, .inl ⟨_, _, rfl, run_takeDeferred k2, ?_⟩⟩⟩⟩
            refine ⟨.bool true, ?_, rfl, k4⟩
            simp [results, Try.f3, go_sem, k3]
    · have dS : decide (1 ≤ stop) = false := by simp; omega
      go_wp2_with (first | (go_at_call 7; refine (choose64_no _ _ H64.out _).mono ?_; rintro e w' ⟨rfl, rfl⟩))
      clear c0 c1 c2 c3
      obtain ⟨V, hV⟩ : ∃ V, (((V1.alloc (.cells #[.int .i64 0] 3)).alloc (.cells #[.int .u64 0] 23)).alloc (.cells #[.int .i64 n] 3)).alloc (.cells #[.int .i64 k] 3) = V := ⟨_, rfl⟩
      obtain ⟨sV, a0, a1, a2, a3, hBV⟩ := four_boxes V1 _ _ _ _ _ _ _ _ V hV
      rw [hV]
      clear hV
      have hF := HF.out.on hBV (Nat.le_refl _) (by omega)
      clear HF
      refine (wpIn_wide (n := 10)).1 (rangeC rfl (enters_of Try.func13 (by kernel_rfl) rfl) (choose64_none (fun x => #[.int .u64 (x : Int)]) (fun _ => True) (fun _ => False) V) (fun _ => rfl)
        (fun _ => False) (fun _ h => h.elim) (fun _ h => h.elim)
        (fun _ W => Box W V1.heap.size (.int .i64 ((0 : Nat) : Int)) ∧ Four w.heap.size (.int .i64 n) (.int .i64 k) (.int .i64 stop) (.bool false) w W) (fun _ _ _ => False)
        (fun _ A B h hs => ⟨h.1.stay hs, h.2.stay hs (by omega)⟩) (fun _ _ A B h hs => h.elim) ⟨a0, hF⟩
        (fun _ _ _ _ h => h) (fun _ _ _ _ h => absurd h (by omega)) ?done (fun _ _ _ _ _ h => absurd h (by omega)))
      case done =>
          rintro D W hD ⟨hS, hF⟩ hK
          have hT : ChT w.heap.size V1.heap.size D n k stop 0 w W := ⟨hS, hF, hK⟩
          clear hS hF a0 a1 a2 a3 hBV
          obtain ⟨c0, c1, l0, l1, lS, lD⟩ : W.cell? ⟨w.heap.size, 0, none⟩ = some (.int .i64 n) ∧ W.cell? ⟨w.heap.size + 1, 0, none⟩ = some (.int .i64 k) ∧ w.heap.size < W.heap.size ∧ w.heap.size + 1 < W.heap.size ∧ V1.heap.size < W.heap.size ∧ D < W.heap.size :=
            ⟨hT.2.1.b0.1, hT.2.1.b1.1, hT.2.1.b0.lt, hT.2.1.b1.lt, hT.1.lt, (Array.getElem?_eq_some_iff.1 hT.2.2).1⟩
          have HT : Hid (ChT w.heap.size V1.heap.size D n k stop 0 w W) := hT
          clear hT hK
          go_wp2_with (first | (go_at_call 8; refine (choose8_no _ _ H8.out _).mono ?_; rintro e w' ⟨rfl, rfl⟩))
          obtain ⟨V2, hV2⟩ : ∃ V2, (W.alloc (.cells #[.int .i64 n] 3)).alloc (.cells #[.int .i64 k] 3) = V2 := ⟨_, rfl⟩
          obtain ⟨sV2, a0, a1, hSV2⟩ := two_boxes W _ _ _ _ V2 hV2
          rw [hV2]
          clear hV2 c0 c1
          refine (wpIn_wide (n := 10)).1 (rangeC rfl (enters_of Try.func16 (by kernel_rfl) rfl) (choose8_none (fun x => #[.int .u8 (x : Int)]) (fun _ => True) (fun _ => False) V2) (fun _ => rfl)
            (fun _ => False) (fun _ h => h.elim) (fun _ h => h.elim)
            (fun _ => ChT w.heap.size V1.heap.size D n k stop 0 w) (fun _ _ _ => False)
            (fun _ A B h hs => h.stay hs (by omega) (by omega)) (fun _ _ A B h hs => h.elim) (HT.out.stay hSV2 (by omega) (by omega))
            (fun _ _ _ _ h => h) (fun _ _ _ _ h => absurd h (by omega)) ?done2 (fun _ _ _ _ _ h => absurd h (by omega)))
          case done2 =>
            rintro E W3 hE hT hK
            obtain ⟨k1, k2, k3, k4⟩ := leaves2 (u := .bool true) hT.2.1.b3 hT.2.2 hK (by omega) (by omega) (by omega) (by omega) (by omega) (by omega) hT.2.1.below
            have cS := hT.1.1; have cR := hT.2.1.b3.1; have fR := hT.2.1.b3.2
            clear hT hK
            go_wp2
            refine ⟨by simp, .inl ⟨_, _, rfl, run_takeDeferred k1, ⟨by simp, .inl ⟨_, _, rfl, run_takeDeferred k2, ?_⟩⟩⟩⟩
            refine ⟨.bool true, ?_, rfl, k4⟩
            simp [results, Try.f3, go_sem, k3]
  · skip
    have q1 : decide (10 < n) = true := by simp; omega
    have q2 : decide (n ≤ 16) = false := by simp; omega
    have q3 : decide (n ≤ 10) = false := by simp; omega
    by_cases hs1 : 1 ≤ stop
    · have hmin : ∀ (ts : Array TypeId) (t : TypeId) (w : World), (Builtin.min_ ts t #[.int .i64 0, .int .i64 stop]).run Try.prog w = .ok (.int .i64 0) w := fun ts t w => run_minI _ _ _ (by omega) ts t w
      go_wp2_with (first | (go_at_call 7; refine (choose64_no _ _ H64.out _).mono ?_; rintro e w' ⟨rfl, rfl⟩))
      clear c0 c1 c2 c3
      obtain ⟨V, hV⟩ : ∃ V, (((V1.alloc (.cells #[.int .i64 0] 3)).alloc (.cells #[.int .u64 0] 23)).alloc (.cells #[.int .i64 n] 3)).alloc (.cells #[.int .i64 k] 3) = V := ⟨_, rfl⟩
      obtain ⟨sV, a0, a1, a2, a3, hBV⟩ := four_boxes V1 _ _ _ _ _ _ _ _ V hV
      rw [hV]
      clear hV
      have hF := HF.out.on hBV (Nat.le_refl _) (by omega)
      clear HF
      refine (wpIn_wide (n := 10)).1 (rangeC rfl (enters_of Try.func13 (by kernel_rfl) rfl) (choose64_none (fun x => #[.int .u64 (x : Int)]) (fun _ => True) (fun _ => False) V) (fun _ => rfl)
        (fun _ => False) (fun _ h => h.elim) (fun _ h => h.elim)
        (fun _ W => Box W V1.heap.size (.int .i64 ((0 : Nat) : Int)) ∧ Four w.heap.size (.int .i64 n) (.int .i64 k) (.int .i64 stop) (.bool false) w W) (fun _ _ _ => False)
        (fun _ A B h hs => ⟨h.1.stay hs, h.2.stay hs (by omega)⟩) (fun _ _ A B h hs => h.elim) ⟨a0, hF⟩
        (fun _ _ _ _ h => h) (fun _ _ _ _ h => absurd h (by omega)) ?done (fun _ _ _ _ _ h => absurd h (by omega)))
      case done =>
          rintro D W hD ⟨hS, hF⟩ hK
          have hT : ChT w.heap.size V1.heap.size D n k stop 0 w W := ⟨hS, hF, hK⟩
          clear hS hF a0 a1 a2 a3 hBV
          obtain ⟨c0, c1, l0, l1, lS, lD⟩ : W.cell? ⟨w.heap.size, 0, none⟩ = some (.int .i64 n) ∧ W.cell? ⟨w.heap.size + 1, 0, none⟩ = some (.int .i64 k) ∧ w.heap.size < W.heap.size ∧ w.heap.size + 1 < W.heap.size ∧ V1.heap.size < W.heap.size ∧ D < W.heap.size :=
            ⟨hT.2.1.b0.1, hT.2.1.b1.1, hT.2.1.b0.lt, hT.2.1.b1.lt, hT.1.lt, (Array.getElem?_eq_some_iff.1 hT.2.2).1⟩
          have HT : Hid (ChT w.heap.size V1.heap.size D n k stop 0 w W) := hT
          clear hT hK
          go_wp2_with (first | (go_at_call 8; refine (choose8_no _ _ H8.out _).mono ?_; rintro e w' ⟨rfl, rfl⟩))
          obtain ⟨V2, hV2⟩ : ∃ V2, (W.alloc (.cells #[.int .i64 n] 3)).alloc (.cells #[.int .i64 k] 3) = V2 := ⟨_, rfl⟩
          obtain ⟨sV2, a0, a1, hSV2⟩ := two_boxes W _ _ _ _ V2 hV2
          rw [hV2]
          clear hV2 c0 c1
          refine (wpIn_wide (n := 10)).1 (rangeC rfl (enters_of Try.func16 (by kernel_rfl) rfl) (choose8_none (fun x => #[.int .u8 (x : Int)]) (fun _ => True) (fun _ => False) V2) (fun _ => rfl)
            (fun _ => False) (fun _ h => h.elim) (fun _ h => h.elim)
            (fun _ => ChT w.heap.size V1.heap.size D n k stop 0 w) (fun _ _ _ => False)
            (fun _ A B h hs => h.stay hs (by omega) (by omega)) (fun _ _ A B h hs => h.elim) (HT.out.stay hSV2 (by omega) (by omega))
            (fun _ _ _ _ h => h) (fun _ _ _ _ h => absurd h (by omega)) ?done2 (fun _ _ _ _ _ h => absurd h (by omega)))
          case done2 =>
            rintro E W3 hE hT hK
            obtain ⟨k1, k2, k3, k4⟩ := leaves2 (u := .bool true) hT.2.1.b3 hT.2.2 hK (by omega) (by omega) (by omega) (by omega) (by omega) (by omega) hT.2.1.below
            have cS := hT.1.1; have cR := hT.2.1.b3.1; have fR := hT.2.1.b3.2
            clear hT hK
            go_wp2
            refine ⟨by simp, .inl ⟨_, _, rfl, run_takeDeferred k1, ⟨by simp, .inl ⟨_, _, rfl, run_takeDeferred k2, ?_⟩⟩⟩⟩
            refine ⟨.bool true, ?_, rfl, k4⟩
            simp [results, Try.f3, go_sem, k3]
    · have dS : decide (1 ≤ stop) = false := by simp; omega
      go_wp2_with (first | (go_at_call 7; refine (choose64_no _ _ H64.out _).mono ?_; rintro e w' ⟨rfl, rfl⟩))
      clear c0 c1 c2 c3
      obtain ⟨V, hV⟩ : ∃ V, (((V1.alloc (.cells #[.int .i64 0] 3)).alloc (.cells #[.int .u64 0] 23)).alloc (.cells #[.int .i64 n] 3)).alloc (.cells #[.int .i64 k] 3) = V := ⟨_, rfl⟩
      obtain ⟨sV, a0, a1, a2, a3, hBV⟩ := four_boxes V1 _ _ _ _ _ _ _ _ V hV
      rw [hV]
      clear hV
      have hF := HF.out.on hBV (Nat.le_refl _) (by omega)
      clear HF
      refine (wpIn_wide (n := 10)).1 (rangeC rfl (enters_of Try.func13 (by kernel_rfl) rfl) (choose64_none (fun x => #[.int .u64 (x : Int)]) (fun _ => True) (fun _ => False) V) (fun _ => rfl)
        (fun _ => False) (fun _ h => h.elim) (fun _ h => h.elim)
        (fun _ W => Box W V1.heap.size (.int .i64 ((0 : Nat) : Int)) ∧ Four w.heap.size (.int .i64 n) (.int .i64 k) (.int .i64 stop) (.bool false) w W) (fun _ _ _ => False)
        (fun _ A B h hs => ⟨h.1.stay hs, h.2.stay hs (by omega)⟩) (fun _ _ A B h hs => h.elim) ⟨a0, hF⟩
        (fun _ _ _ _ h => h) (fun _ _ _ _ h => absurd h (by omega)) ?done (fun _ _ _ _ _ h => absurd h (by omega)))
      case done =>
          rintro D W hD ⟨hS, hF⟩ hK
          have hT : ChT w.heap.size V1.heap.size D n k stop 0 w W := ⟨hS, hF, hK⟩
          clear hS hF a0 a1 a2 a3 hBV
          obtain ⟨c0, c1, l0, l1, lS, lD⟩ : W.cell? ⟨w.heap.size, 0, none⟩ = some (.int .i64 n) ∧ W.cell? ⟨w.heap.size + 1, 0, none⟩ = some (.int .i64 k) ∧ w.heap.size < W.heap.size ∧ w.heap.size + 1 < W.heap.size ∧ V1.heap.size < W.heap.size ∧ D < W.heap.size :=
            ⟨hT.2.1.b0.1, hT.2.1.b1.1, hT.2.1.b0.lt, hT.2.1.b1.lt, hT.1.lt, (Array.getElem?_eq_some_iff.1 hT.2.2).1⟩
          have HT : Hid (ChT w.heap.size V1.heap.size D n k stop 0 w W) := hT
          clear hT hK
          go_wp2_with (first | (go_at_call 8; refine (choose8_no _ _ H8.out _).mono ?_; rintro e w' ⟨rfl, rfl⟩))
          obtain ⟨V2, hV2⟩ : ∃ V2, (W.alloc (.cells #[.int .i64 n] 3)).alloc (.cells #[.int .i64 k] 3) = V2 := ⟨_, rfl⟩
          obtain ⟨sV2, a0, a1, hSV2⟩ := two_boxes W _ _ _ _ V2 hV2
          rw [hV2]
          clear hV2 c0 c1
          refine (wpIn_wide (n := 10)).1 (rangeC rfl (enters_of Try.func16 (by kernel_rfl) rfl) (choose8_none (fun x => #[.int .u8 (x : Int)]) (fun _ => True) (fun _ => False) V2) (fun _ => rfl)
            (fun _ => False) (fun _ h => h.elim) (fun _ h => h.elim)
            (fun _ => ChT w.heap.size V1.heap.size D n k stop 0 w) (fun _ _ _ => False)
            (fun _ A B h hs => h.stay hs (by omega) (by omega)) (fun _ _ A B h hs => h.elim) (HT.out.stay hSV2 (by omega) (by omega))
            (fun _ _ _ _ h => h) (fun _ _ _ _ h => absurd h (by omega)) ?done2 (fun _ _ _ _ _ h => absurd h (by omega)))
          case done2 =>
            rintro E W3 hE hT hK
            obtain ⟨k1, k2, k3, k4⟩ := leaves2 (u := .bool true) hT.2.1.b3 hT.2.2 hK (by omega) (by omega) (by omega) (by omega) (by omega) (by omega) hT.2.1.below
            have cS := hT.1.1; have cR := hT.2.1.b3.1; have fR := hT.2.1.b3.2
            clear hT hK
            go_wp2
            refine ⟨by simp, .inl ⟨_, _, rfl, run_takeDeferred k1, ⟨by simp, .inl ⟨_, _, rfl, run_takeDeferred k2, ?_⟩⟩⟩⟩
            refine ⟨.bool true, ?_, rfl, k4⟩
            simp [results, Try.f3, go_sem, k3]
  · skip
    have q1 : decide (10 < n) = false := by simp; omega
    have q2 : decide (0 ≤ k) = false := by simp; omega
    by_cases hs1 : 1 ≤ stop
    · have hmin : ∀ (ts : Array TypeId) (t : TypeId) (w : World), (Builtin.min_ ts t #[.int .i64 0, .int .i64 stop]).run Try.prog w = .ok (.int .i64 0) w := fun ts t w => run_minI _ _ _ (by omega) ts t w
      go_wp2_with (first | (go_at_call 7; refine (choose64_no _ _ H64.out _).mono ?_; rintro e w' ⟨rfl, rfl⟩))
      clear c0 c1 c2 c3
      obtain ⟨V, hV⟩ : ∃ V, (((V1.alloc (.cells #[.int .i64 0] 3)).alloc (.cells #[.int .u64 0] 23)).alloc (.cells #[.int .i64 n] 3)).alloc (.cells #[.int .i64 k] 3) = V := ⟨_, rfl⟩
      obtain ⟨sV, a0, a1, a2, a3, hBV⟩ := four_boxes V1 _ _ _ _ _ _ _ _ V hV
      rw [hV]
      clear hV
      have hF := HF.out.on hBV (Nat.le_refl _) (by omega)
      clear HF
      refine (wpIn_wide (n := 10)).1 (rangeC rfl (enters_of Try.func13 (by kernel_rfl) rfl) (choose64_none (fun x => #[.int .u64 (x : Int)]) (fun _ => True) (fun _ => False) V) (fun _ => rfl)
        (fun _ => False) (fun _ h => h.elim) (fun _ h => h.elim)
        (fun _ W => Box W V1.heap.size (.int .i64 ((0 : Nat) : Int)) ∧ Four w.heap.size (.int .i64 n) (.int .i64 k) (.int .i64 stop) (.bool false) w W) (fun _ _ _ => False)
        (fun _ A B h hs => ⟨h.1.stay hs, h.2.stay hs (by omega)⟩) (fun _ _ A B h hs => h.elim) ⟨a0, hF⟩
        (fun _ _ _ _ h => h) (fun _ _ _ _ h => absurd h (by omega)) ?done (fun _ _ _ _ _ h => absurd h (by omega)))
      case done =>
          rintro D W hD ⟨hS, hF⟩ hK
          have hT : ChT w.heap.size V1.heap.size D n k stop 0 w W := ⟨hS, hF, hK⟩
          clear hS hF a0 a1 a2 a3 hBV
          obtain ⟨c0, c1, l0, l1, lS, lD⟩ : W.cell? ⟨w.heap.size, 0, none⟩ = some (.int .i64 n) ∧ W.cell? ⟨w.heap.size + 1, 0, none⟩ = some (.int .i64 k) ∧ w.heap.size < W.heap.size ∧ w.heap.size + 1 < W.heap.size ∧ V1.heap.size < W.heap.size ∧ D < W.heap.size :=
            ⟨hT.2.1.b0.1, hT.2.1.b1.1, hT.2.1.b0.lt, hT.2.1.b1.lt, hT.1.lt, (Array.getElem?_eq_some_iff.1 hT.2.2).1⟩
          have HT : Hid (ChT w.heap.size V1.heap.size D n k stop 0 w W) := hT
          clear hT hK
          go_wp2_with (first | (go_at_call 8; refine (choose8_no _ _ H8.out _).mono ?_; rintro e w' ⟨rfl, rfl⟩))
          obtain ⟨V2, hV2⟩ : ∃ V2, (W.alloc (.cells #[.int .i64 n] 3)).alloc (.cells #[.int .i64 k] 3) = V2 := ⟨_, rfl⟩
          obtain ⟨sV2, a0, a1, hSV2⟩ := two_boxes W _ _ _ _ V2 hV2
          rw [hV2]
          clear hV2 c0 c1
          refine (wpIn_wide (n := 10)).1 (rangeC rfl (enters_of Try.func16 (by kernel_rfl) rfl) (choose8_none (fun x => #[.int .u8 (x : Int)]) (fun _ => True) (fun _ => False) V2) (fun _ => rfl)
            (fun _ => False) (fun _ h => h.elim) (fun _ h => h.elim)
            (fun _ => ChT w.heap.size V1.heap.size D n k stop 0 w) (fun _ _ _ => False)
            (fun _ A B h hs => h.stay hs (by omega) (by omega)) (fun _ _ A B h hs => h.elim) (HT.out.stay hSV2 (by omega) (by omega))
            (fun _ _ _ _ h => h) (fun _ _ _ _ h => absurd h (by omega)) ?done2 (fun _ _ _ _ _ h => absurd h (by omega)))
          case done2 =>
            rintro E W3 hE hT hK
            obtain ⟨k1, k2, k3, k4⟩ := leaves2 (u := .bool true) hT.2.1.b3 hT.2.2 hK (by omega) (by omega) (by omega) (by omega) (by omega) (by omega) hT.2.1.below
            have cS := hT.1.1; have cR := hT.2.1.b3.1; have fR := hT.2.1.b3.2
            clear hT hK
            go_wp2
            refine ⟨by simp, .inl ⟨_, _, rfl, run_takeDeferred k1, ⟨by simp, .inl ⟨_, _, rfl, run_takeDeferred k2, ?_⟩⟩⟩⟩
            refine ⟨.bool true, ?_, rfl, k4⟩
            simp [results, Try.f3, go_sem, k3]
    · have dS : decide (1 ≤ stop) = false := by simp; omega
      go_wp2_with (first | (go_at_call 7; refine (choose64_no _ _ H64.out _).mono ?_; rintro e w' ⟨rfl, rfl⟩))
      clear c0 c1 c2 c3
      obtain ⟨V, hV⟩ : ∃ V, (((V1.alloc (.cells #[.int .i64 0] 3)).alloc (.cells #[.int .u64 0] 23)).alloc (.cells #[.int .i64 n] 3)).alloc (.cells #[.int .i64 k] 3) = V := ⟨_, rfl⟩
      obtain ⟨sV, a0, a1, a2, a3, hBV⟩ := four_boxes V1 _ _ _ _ _ _ _ _ V hV
      rw [hV]
      clear hV
      have hF := HF.out.on hBV (Nat.le_refl _) (by omega)
      clear HF
      refine (wpIn_wide (n := 10)).1 (rangeC rfl (enters_of Try.func13 (by kernel_rfl) rfl) (choose64_none (fun x => #[.int .u64 (x : Int)]) (fun _ => True) (fun _ => False) V) (fun _ => rfl)
        (fun _ => False) (fun _ h => h.elim) (fun _ h => h.elim)
        (fun _ W => Box W V1.heap.size (.int .i64 ((0 : Nat) : Int)) ∧ Four w.heap.size (.int .i64 n) (.int .i64 k) (.int .i64 stop) (.bool false) w W) (fun _ _ _ => False)
        (fun _ A B h hs => ⟨h.1.stay hs, h.2.stay hs (by omega)⟩) (fun _ _ A B h hs => h.elim) ⟨a0, hF⟩
        (fun _ _ _ _ h => h) (fun _ _ _ _ h => absurd h (by omega)) ?done (fun _ _ _ _ _ h => absurd h (by omega)))
      case done =>
          rintro D W hD ⟨hS, hF⟩ hK
          have hT : ChT w.heap.size V1.heap.size D n k stop 0 w W := ⟨hS, hF, hK⟩
          clear hS hF a0 a1 a2 a3 hBV
          obtain ⟨c0, c1, l0, l1, lS, lD⟩ : W.cell? ⟨w.heap.size, 0, none⟩ = some (.int .i64 n) ∧ W.cell? ⟨w.heap.size + 1, 0, none⟩ = some (.int .i64 k) ∧ w.heap.size < W.heap.size ∧ w.heap.size + 1 < W.heap.size ∧ V1.heap.size < W.heap.size ∧ D < W.heap.size :=
            ⟨hT.2.1.b0.1, hT.2.1.b1.1, hT.2.1.b0.lt, hT.2.1.b1.lt, hT.1.lt, (Array.getElem?_eq_some_iff.1 hT.2.2).1⟩
          have HT : Hid (ChT w.heap.size V1.heap.size D n k stop 0 w W) := hT
          clear hT hK
          go_wp2_with (first | (go_at_call 8; refine (choose8_no _ _ H8.out _).mono ?_; rintro e w' ⟨rfl, rfl⟩))
          obtain ⟨V2, hV2⟩ : ∃ V2, (W.alloc (.cells #[.int .i64 n] 3)).alloc (.cells #[.int .i64 k] 3) = V2 := ⟨_, rfl⟩
          obtain ⟨sV2, a0, a1, hSV2⟩ := two_boxes W _ _ _ _ V2 hV2
          rw [hV2]
          clear hV2 c0 c1
          refine (wpIn_wide (n := 10)).1 (rangeC rfl (enters_of Try.func16 (by kernel_rfl) rfl) (choose8_none (fun x => #[.int .u8 (x : Int)]) (fun _ => True) (fun _ => False) V2) (fun _ => rfl)
            (fun _ => False) (fun _ h => h.elim) (fun _ h => h.elim)
            (fun _ => ChT w.heap.size V1.heap.size D n k stop 0 w) (fun _ _ _ => False)
            (fun _ A B h hs => h.stay hs (by omega) (by omega)) (fun _ _ A B h hs => h.elim) (HT.out.stay hSV2 (by omega) (by omega))
            (fun _ _ _ _ h => h) (fun _ _ _ _ h => absurd h (by omega)) ?done2 (fun _ _ _ _ _ h => absurd h (by omega)))
          case done2 =>
            rintro E W3 hE hT hK
            obtain ⟨k1, k2, k3, k4⟩ := leaves2 (u := .bool true) hT.2.1.b3 hT.2.2 hK (by omega) (by omega) (by omega) (by omega) (by omega) (by omega) hT.2.1.below
            have cS := hT.1.1; have cR := hT.2.1.b3.1; have fR := hT.2.1.b3.2
            clear hT hK
            go_wp2
            refine ⟨by simp, .inl ⟨_, _, rfl, run_takeDeferred k1, ⟨by simp, .inl ⟨_, _, rfl, run_takeDeferred k2, ?_⟩⟩⟩⟩
            refine ⟨.bool true, ?_, rfl, k4⟩
            simp [results, Try.f3, go_sem, k3]
  · skip
    have q1 : decide (10 < n) = false := by simp; omega
    have q2 : decide (k ≤ n) = false := by simp; omega
    by_cases hs1 : 1 ≤ stop
    · have hmin : ∀ (ts : Array TypeId) (t : TypeId) (w : World), (Builtin.min_ ts t #[.int .i64 0, .int .i64 stop]).run Try.prog w = .ok (.int .i64 0) w := fun ts t w => run_minI _ _ _ (by omega) ts t w
      go_wp2_with (first | (go_at_call 7; refine (choose64_no _ _ H64.out _).mono ?_; rintro e w' ⟨rfl, rfl⟩))
      clear c0 c1 c2 c3
      obtain ⟨V, hV⟩ : ∃ V, (((V1.alloc (.cells #[.int .i64 0] 3)).alloc (.cells #[.int .u64 0] 23)).alloc (.cells #[.int .i64 n] 3)).alloc (.cells #[.int .i64 k] 3) = V := ⟨_, rfl⟩
      obtain ⟨sV, a0, a1, a2, a3, hBV⟩ := four_boxes V1 _ _ _ _ _ _ _ _ V hV
      rw [hV]
      clear hV
      have hF := HF.out.on hBV (Nat.le_refl _) (by omega)
      clear HF
      refine (wpIn_wide (n := 10)).1 (rangeC rfl (enters_of Try.func13 (by kernel_rfl) rfl) (choose64_none (fun x => #[.int .u64 (x : Int)]) (fun _ => True) (fun _ => False) V) (fun _ => rfl)
        (fun _ => False) (fun _ h => h.elim) (fun _ h => h.elim)
        (fun _ W => Box W V1.heap.size (.int .i64 ((0 : Nat) : Int)) ∧ Four w.heap.size (.int .i64 n) (.int .i64 k) (.int .i64 stop) (.bool false) w W) (fun _ _ _ => False)
        (fun _ A B h hs => ⟨h.1.stay hs, h.2.stay hs (by omega)⟩) (fun _ _ A B h hs => h.elim) ⟨a0, hF⟩
        (fun _ _ _ _ h => h) (fun _ _ _ _ h => absurd h (by omega)) ?done (fun _ _ _ _ _ h => absurd h (by omega)))
      case done =>
          rintro D W hD ⟨hS, hF⟩ hK
          have hT : ChT w.heap.size V1.heap.size D n k stop 0 w W := ⟨hS, hF, hK⟩
          clear hS hF a0 a1 a2 a3 hBV
          obtain ⟨c0, c1, l0, l1, lS, lD⟩ : W.cell? ⟨w.heap.size, 0, none⟩ = some (.int .i64 n) ∧ W.cell? ⟨w.heap.size + 1, 0, none⟩ = some (.int .i64 k) ∧ w.heap.size < W.heap.size ∧ w.heap.size + 1 < W.heap.size ∧ V1.heap.size < W.heap.size ∧ D < W.heap.size :=
            ⟨hT.2.1.b0.1, hT.2.1.b1.1, hT.2.1.b0.lt, hT.2.1.b1.lt, hT.1.lt, (Array.getElem?_eq_some_iff.1 hT.2.2).1⟩
          have HT : Hid (ChT w.heap.size V1.heap.size D n k stop 0 w W) := hT
          clear hT hK
          go_wp2_with (first | (go_at_call 8; refine (choose8_no _ _ H8.out _).mono ?_; rintro e w' ⟨rfl, rfl⟩))
          obtain ⟨V2, hV2⟩ : ∃ V2, (W.alloc (.cells #[.int .i64 n] 3)).alloc (.cells #[.int .i64 k] 3) = V2 := ⟨_, rfl⟩
          obtain ⟨sV2, a0, a1, hSV2⟩ := two_boxes W _ _ _ _ V2 hV2
          rw [hV2]
          clear hV2 c0 c1
          refine (wpIn_wide (n := 10)).1 (rangeC rfl (enters_of Try.func16 (by kernel_rfl) rfl) (choose8_none (fun x => #[.int .u8 (x : Int)]) (fun _ => True) (fun _ => False) V2) (fun _ => rfl)
            (fun _ => False) (fun _ h => h.elim) (fun _ h => h.elim)
            (fun _ => ChT w.heap.size V1.heap.size D n k stop 0 w) (fun _ _ _ => False)
            (fun _ A B h hs => h.stay hs (by omega) (by omega)) (fun _ _ A B h hs => h.elim) (HT.out.stay hSV2 (by omega) (by omega))
            (fun _ _ _ _ h => h) (fun _ _ _ _ h => absurd h (by omega)) ?done2 (fun _ _ _ _ _ h => absurd h (by omega)))
          case done2 =>
            rintro E W3 hE hT hK
            obtain ⟨k1, k2, k3, k4⟩ := leaves2 (u := .bool true) hT.2.1.b3 hT.2.2 hK (by omega) (by omega) (by omega) (by omega) (by omega) (by omega) hT.2.1.below
            have cS := hT.1.1; have cR := hT.2.1.b3.1; have fR := hT.2.1.b3.2
            clear hT hK
            go_wp2
            refine ⟨by simp, .inl ⟨_, _, rfl, run_takeDeferred k1, ⟨by simp, .inl ⟨_, _, rfl, run_takeDeferred k2, ?_⟩⟩⟩⟩
            refine ⟨.bool true, ?_, rfl, k4⟩
            simp [results, Try.f3, go_sem, k3]
    · have dS : decide (1 ≤ stop) = false := by simp; omega
      go_wp2_with (first | (go_at_call 7; refine (choose64_no _ _ H64.out _).mono ?_; rintro e w' ⟨rfl, rfl⟩))
      clear c0 c1 c2 c3
      obtain ⟨V, hV⟩ : ∃ V, (((V1.alloc (.cells #[.int .i64 0] 3)).alloc (.cells #[.int .u64 0] 23)).alloc (.cells #[.int .i64 n] 3)).alloc (.cells #[.int .i64 k] 3) = V := ⟨_, rfl⟩
      obtain ⟨sV, a0, a1, a2, a3, hBV⟩ := four_boxes V1 _ _ _ _ _ _ _ _ V hV
      rw [hV]
      clear hV
      have hF := HF.out.on hBV (Nat.le_refl _) (by omega)
      clear HF
      refine (wpIn_wide (n := 10)).1 (rangeC rfl (enters_of Try.func13 (by kernel_rfl) rfl) (choose64_none (fun x => #[.int .u64 (x : Int)]) (fun _ => True) (fun _ => False) V) (fun _ => rfl)
        (fun _ => False) (fun _ h => h.elim) (fun _ h => h.elim)
        (fun _ W => Box W V1.heap.size (.int .i64 ((0 : Nat) : Int)) ∧ Four w.heap.size (.int .i64 n) (.int .i64 k) (.int .i64 stop) (.bool false) w W) (fun _ _ _ => False)
        (fun _ A B h hs => ⟨h.1.stay hs, h.2.stay hs (by omega)⟩) (fun _ _ A B h hs => h.elim) ⟨a0, hF⟩
        (fun _ _ _ _ h => h) (fun _ _ _ _ h => absurd h (by omega)) ?done (fun _ _ _ _ _ h => absurd h (by omega)))
      case done =>
          rintro D W hD ⟨hS, hF⟩ hK
          have hT : ChT w.heap.size V1.heap.size D n k stop 0 w W := ⟨hS, hF, hK⟩
          clear hS hF a0 a1 a2 a3 hBV
          obtain ⟨c0, c1, l0, l1, lS, lD⟩ : W.cell? ⟨w.heap.size, 0, none⟩ = some (.int .i64 n) ∧ W.cell? ⟨w.heap.size + 1, 0, none⟩ = some (.int .i64 k) ∧ w.heap.size < W.heap.size ∧ w.heap.size + 1 < W.heap.size ∧ V1.heap.size < W.heap.size ∧ D < W.heap.size :=
            ⟨hT.2.1.b0.1, hT.2.1.b1.1, hT.2.1.b0.lt, hT.2.1.b1.lt, hT.1.lt, (Array.getElem?_eq_some_iff.1 hT.2.2).1⟩
          have HT : Hid (ChT w.heap.size V1.heap.size D n k stop 0 w W) := hT
          clear hT hK
          go_wp2_with (first | (go_at_call 8; refine (choose8_no _ _ H8.out _).mono ?_; rintro e w' ⟨rfl, rfl⟩))
          obtain ⟨V2, hV2⟩ : ∃ V2, (W.alloc (.cells #[.int .i64 n] 3)).alloc (.cells #[.int .i64 k] 3) = V2 := ⟨_, rfl⟩
          obtain ⟨sV2, a0, a1, hSV2⟩ := two_boxes W _ _ _ _ V2 hV2
          rw [hV2]
          clear hV2 c0 c1
          refine (wpIn_wide (n := 10)).1 (rangeC rfl (enters_of Try.func16 (by kernel_rfl) rfl) (choose8_none (fun x => #[.int .u8 (x : Int)]) (fun _ => True) (fun _ => False) V2) (fun _ => rfl)
            (fun _ => False) (fun _ h => h.elim) (fun _ h => h.elim)
            (fun _ => ChT w.heap.size V1.heap.size D n k stop 0 w) (fun _ _ _ => False)
            (fun _ A B h hs => h.stay hs (by omega) (by omega)) (fun _ _ A B h hs => h.elim) (HT.out.stay hSV2 (by omega) (by omega))
            (fun _ _ _ _ h => h) (fun _ _ _ _ h => absurd h (by omega)) ?done2 (fun _ _ _ _ _ h => absurd h (by omega)))
          case done2 =>
            rintro E W3 hE hT hK
            obtain ⟨k1, k2, k3, k4⟩ := leaves2 (u := .bool true) hT.2.1.b3 hT.2.2 hK (by omega) (by omega) (by omega) (by omega) (by omega) (by omega) hT.2.1.below
            have cS := hT.1.1; have cR := hT.2.1.b3.1; have fR := hT.2.1.b3.2
            clear hT hK
            go_wp2
            refine ⟨by simp, .inl ⟨_, _, rfl, run_takeDeferred k1, ⟨by simp, .inl ⟨_, _, rfl, run_takeDeferred k2, ?_⟩⟩⟩⟩
            refine ⟨.bool true, ?_, rfl, k4⟩
            simp [results, Try.f3, go_sem, k3]

set_option maxRecDepth 100000 in
set_option maxHeartbeats 4000000 in
theorem bitChooses_early (n k stop : Int) (h1 : 10 < n) (h2 : n ≤ 16) (w : World) :
    CallsIn Fence.wide 10 Try.prog 3 #[.int .i64 n, .int .i64 k, .int .i64 stop] w fun e w' => e = .returned (.bool true) ∧ Below w.heap.size w w' := by
  refine callsIn_of_wp_marks Try.func3 rfl trivial ?_ rfl
  simp only [Try.ntmps3, List.size_toArray, List.length_cons, List.length_nil, Nat.reduceAdd, Nat.reduceSub, Array.replicate_succ, Array.replicate_zero, List.push_toArray, List.append_toArray, List.nil_append, List.cons_append]
  refine wpIn_wide.2 ?_
  go_wp2_with fail
  obtain ⟨V0, hV0⟩ : ∃ V0, (((w.alloc (.cells #[.int .i64 n] 3)).alloc (.cells #[.int .i64 k] 3)).alloc (.cells #[.int .i64 stop] 3)).alloc (.cells #[.bool false] 4) = V0 := ⟨_, rfl⟩
  obtain ⟨s0, a0, a1, a2, a3, hB0⟩ := four_boxes w _ _ _ _ _ _ _ _ V0 hV0
  rw [hV0]
  clear hV0
  refine (anchor_any _).mono ?_
  rintro e V1 ⟨rfl, hB1⟩
  have b0 := a0.below hB1 a0.lt
  have b1 := a1.below hB1 a1.lt
  have b2 := a2.below hB1 a2.lt
  have b3 := a3.below hB1 a3.lt
  have hB : Below w.heap.size w V1 := hB0.trans (hB1.mono (by omega))
  have s1 : w.heap.size + 4 ≤ V1.heap.size := by have := hB1.size; omega
  clear a0 a1 a2 a3 hB0 hB1 s0
  have c0 := b0.1; have c1 := b1.1; have c2 := b2.1; have c3 := b3.1; have f3 := b3.2
  have hB' := hB.setCell (p := ⟨w.heap.size + 1 + 1 + 1, 0, none⟩) (by simp; omega) (.bool true)
  have k2 := (b3.set (.bool true)).1
  go_wp2
  refine ⟨.bool true, ?_, rfl, hB'⟩
  simp [results, Try.f3, go_sem, k2]

theorem bitChooses_walk (n k stop : Int) (_w0 : (Lit.int .i64 n).wf = true) (_w1 : (Lit.int .i64 k).wf = true) (w2 : (Lit.int .i64 stop).wf = true) (w : World) :
    Calls Try.prog 3 #[.int .i64 n, .int .i64 k, .int .i64 stop] w fun e w' => e = .returned (.bool true) ∧ Below w.heap.size w w' := by
  have hs := bounds_i64 w2
  refine (callsIn_wide (n := 10)).1 ?_
  by_cases h : 10 < n ∧ n ≤ 16
  · exact bitChooses_early n k stop h.1 h.2 w
  · by_cases h' : 0 ≤ k ∧ k ≤ n ∧ n ≤ 16
    · obtain ⟨n, rfl⟩ := Int.eq_ofNat_of_zero_le (show 0 ≤ n by omega)
      exact bitChooses_yes n k stop (by omega) h'.1 h'.2.1 hs w
    · exact bitChooses_no n k stop h' h w
end Go.Proofs.Ytfjhaihingmnoaa
