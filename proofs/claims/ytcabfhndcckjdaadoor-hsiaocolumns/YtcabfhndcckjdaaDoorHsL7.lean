/-
  The law HsiaoColumns.
-/
import Derived.Test.YtcabfhndcckjdaaDoorHsL1
namespace Go.Proofs.YtcabfhndcckjdaaDoor
open Go.RowKit Go.Shelf
open Bm (wt wtK cntW)
open Hm (col onesOf nOf idx kd pl xs ap syn)
attribute [local go_sem] Oper.semAt_some

/-- the column of any number: 0, if no bit has it -/
def colI (i : Int) : Nat := if 0 ≤ i ∧ i < 74 then col i.toNat else 0
theorem colI_in (i : Nat) (h : i < 74) : colI (i : Int) = col i := by unfold colI; rw [if_pos (by omega), Int.toNat_natCast]
theorem colI_out (i : Int) (h : i < 0 ∨ 74 ≤ i) : colI i = 0 := by unfold colI; rw [if_neg (by omega)]
theorem colI_lt (i : Int) : colI i < 256 := by
  unfold colI; split
  · exact Hm.col_lt _
  · decide
theorem column_all (b : Nat) (i : Int) (w : World) (hc : CodeAt w b) :
    Calls Tryd.prog 12 #[.pointer (some ⟨b, 0, none⟩), .int .i64 i] w fun e w' => e = .returned (.int .u8 (colI i : Int)) ∧ w' = w := by
  by_cases h : 0 ≤ i ∧ i < 74
  · obtain ⟨j, rfl⟩ := Int.eq_ofNat_of_zero_le h.1
    have hj : j < 74 := by omega
    have := column_in b j hj w hc
    rw [← colI_in j hj] at this; exact this
  · have := column_out b i (by omega) w
    rw [colI_out i (by omega)]; exact this
theorem refColumn_all (i : Int) (w : World) :
    Calls Tryd.prog 13 #[.int .i64 i] w fun e w' => e = .returned (.int .u8 (colI i : Int)) ∧ w' = w := by
  by_cases h : 0 ≤ i ∧ i < 74
  · obtain ⟨j, rfl⟩ := Int.eq_ofNat_of_zero_le h.1
    have hj : j < 74 := by omega
    have := refColumn_in j hj w
    rw [← colI_in j hj] at this; exact this
  · have := refColumn_out i (by omega) w
    rw [colI_out i (by omega)]; exact this
/-- the ways of two numbers and their columns -/
theorem colI_ways (i k : Int) : (i < 0 ∧ colI i = 0 ∧ colI i ≠ colI k) ∨ (i < 0 ∧ colI i = 0 ∧ colI k = 0) ∨ (74 ≤ i ∧ colI i = 0 ∧ colI i ≠ colI k) ∨ (74 ≤ i ∧ colI i = 0 ∧ colI k = 0) ∨
    (0 ≤ i ∧ i < 74 ∧ wt (colI i) % 2 = 1 ∧ colI i ≠ colI k) ∨ (0 ≤ i ∧ i < 74 ∧ wt (colI i) % 2 = 1 ∧ 0 < colI i ∧ colI i = colI k ∧ i = k) := by
  by_cases h : 0 ≤ i ∧ i < 74
  · obtain ⟨j, rfl⟩ := Int.eq_ofNat_of_zero_le h.1
    have hj : j < 74 := by omega
    obtain ⟨_, h2, _, _⟩ := Hm.col_all j hj
    have h3 := Hm.col_odd j hj
    rw [colI_in j hj]
    by_cases e : col j = colI k
    · refine .inr (.inr (.inr (.inr (.inr ⟨by omega, by omega, h3, h2, e, ?_⟩))))
      by_cases g : 0 ≤ k ∧ k < 74
      · obtain ⟨l, rfl⟩ := Int.eq_ofNat_of_zero_le g.1
        have hl : l < 74 := by omega
        rw [colI_in l hl] at e
        rw [Hm.col_inj j hj l hl e]
      · rw [colI_out k (by omega)] at e; omega
    · exact .inr (.inr (.inr (.inr (.inl ⟨by omega, by omega, h3, e⟩))))
  · have e := colI_out i (by omega)
    by_cases g : colI k = 0
    · by_cases hneg : i < 0
      · exact .inr (.inl ⟨hneg, e, g⟩)
      · exact .inr (.inr (.inr (.inl ⟨by omega, e, g⟩)))
    · by_cases hneg : i < 0
      · exact .inl ⟨hneg, e, by omega⟩
      · exact .inr (.inr (.inl ⟨by omega, e, by omega⟩))

/-- between two rounds: B the law's first block, N the block of 'n' -/
structure CoI (B N : Nat) (k : Int) (w : World) (x : Nat) (W : World) : Prop where
  n : Box W N (.int .i64 (x : Int))
  k : Box W B (.int .i64 k)
  r : Box W (B + 1) (.bool false)
  below : Below B w W

set_option maxRecDepth 100000 in
set_option maxHeartbeats 4000000 in
theorem hsiaoColumns_walk (i k : Int) (_w0 : (Lit.int .i64 i).wf = true) (_w1 : (Lit.int .i64 k).wf = true) (w : World) (hT : TabW w) :
    Calls Tryd.prog 3 #[.int .i64 i, .int .i64 k] w fun e w' => e = .returned (.bool true) ∧ Below w.heap.size w w' := by
  clear _w0 _w1
  have HT : Hid (TabW w) := hT
  have hT0 := hT.lt
  clear hT
  have hways := colI_ways i k
  have hX := colI_lt i
  have hY := colI_lt k
  have cX : Hid (∀ b w, CodeAt w b → Calls Tryd.prog 12 #[.pointer (some ⟨b, 0, none⟩), .int .i64 i] w fun e w' => e = .returned (.int .u8 (colI i : Int)) ∧ w' = w) := fun b w h => column_all b i w h
  have cY : Hid (∀ b w, CodeAt w b → Calls Tryd.prog 12 #[.pointer (some ⟨b, 0, none⟩), .int .i64 k] w fun e w' => e = .returned (.int .u8 (colI k : Int)) ∧ w' = w) := fun b w h => column_all b k w h
  have rX : Hid (∀ w, Calls Tryd.prog 13 #[.int .i64 i] w fun e w' => e = .returned (.int .u8 (colI i : Int)) ∧ w' = w) := fun w => refColumn_all i w
  have rW : Hid (∀ w, Calls Tryd.prog 14 #[.int .u64 (colI i : Int)] w fun e w' => e = .returned (.int .i64 (wt (colI i) : Int)) ∧ w' = w) := fun w => refWeight_any _ (by omega) w
  obtain ⟨n, hn, Hn⟩ : ∃ n, n ≤ 64 ∧ wt (colI i) = n := ⟨_, Bm.wt_le _, rfl⟩
  obtain ⟨X, eX⟩ : ∃ X, colI i = X := ⟨_, rfl⟩
  obtain ⟨Y, eY⟩ : ∃ Y, colI k = Y := ⟨_, rfl⟩
  rw [Hn, eX] at rW
  rw [Hn, eX, eY] at hways
  rw [eX] at hX cX rX
  rw [eY] at hY cY
  have HWays : Hid _ := hways
  clear hways Hn eX eY
  refine (callsIn_wide (n := 10)).1 ?_
  refine callsIn_of_wp_marks Tryd.func3 rfl trivial ?_ rfl
  simp only [Tryd.ntmps3, List.size_toArray, List.length_cons, List.length_nil, Nat.reduceAdd, Nat.reduceSub, Array.replicate_succ, Array.replicate_zero, List.push_toArray, List.append_toArray, List.nil_append, List.cons_append]
  refine wpIn_wide.2 ?_
  go_wp2_with fail
  obtain ⟨V0, hV0⟩ : ∃ V0, (w.alloc (.cells #[.int .i64 k] 3)).alloc (.cells #[.bool false] 4) = V0 := ⟨_, rfl⟩
  obtain ⟨s0, a0, a1, hS0⟩ := box2 w _ _ _ _ V0 hV0
  have s1 : w.heap.size + 2 ≤ V0.heap.size := by omega
  rw [hV0]
  clear hV0 s0
  have hB0 : Below w.heap.size w V0 := below_stay (Below.refl _ w) hS0 (Nat.le_refl _)
  have hT1 : TabW V0 := HT.out.below hB0 hT0
  refine (new_any _).mono ?_
  rintro e V1 ⟨rfl, hC, hB⟩
  have S1 := St.first hT1 hC hB
  clear hC hB hT1
  go_wp2_with fail
  refine (anchor4_any _ _ S1.code S1.tab).mono ?_
  rintro e V2 ⟨rfl, hB⟩
  replace S1 := S1.next hB
  clear hB
  have b0 := a0.below S1.below a0.lt
  have b1 := a1.below S1.below a1.lt
  have hB2 : Below w.heap.size w V2 := hB0.trans (S1.below.mono (by omega))
  have hC2 := S1.code
  have s2 : w.heap.size + 2 < V2.heap.size := by have := hC2.lt; omega
  obtain ⟨b, hb⟩ : ∃ b, V0.heap.size = b := ⟨_, rfl⟩
  obtain ⟨B, hBB⟩ : ∃ B, w.heap.size = B := ⟨_, rfl⟩
  rw [hb] at hC2 s1 ⊢
  rw [hBB] at b0 b1 hB2 s2 s1 hT0 ⊢
  clear S1 hS0 hB0 a0 a1 HT hb
  have c0 := b0.1
  go_wp2
  go_quiet ((first | (go_at_call_of 12 (Value.int IntKind.i64 i); exact Calls.quiet_of_same (cX.out _ _ (by exact hC2.of rfl))) | (go_at_call_of 12 (Value.int IntKind.i64 k); exact Calls.quiet_of_same (cY.out _ _ (by exact hC2.of rfl)))))
  obtain ⟨V3, hV3⟩ : ∃ V3, V2.drewN nq = V3 := ⟨_, rfl⟩
  have d0 : Box V3 B (.int .i64 k) := by rw [← hV3]; exact b0
  have d1 : Box V3 (B + 1) (.bool false) := by rw [← hV3]; exact b1
  have hB3 : Below B w V3 := by rw [← hV3]; exact below_drewN hB2 nq
  have hC3 : CodeAt V3 b := by rw [← hV3]; exact hC2.of rfl
  have s3 : B + 2 < V3.heap.size := by rw [← hV3]; exact s2
  rw [hV3]
  clear hV3 b0 b1 hB2 hC2 s2 c0 cX cY
  have c0 := d0.1
  have rC : Hid (∀ (x : Nat), x < 74 → ∀ w, Calls Tryd.prog 13 #[.int .i64 (x : Int)] w fun e w' => e = .returned (.int .u8 (col x : Int)) ∧ w' = w) := fun x hx w => refColumn_in x hx w
  rcases HWays.out with ⟨h1, rfl, h3⟩ | ⟨h1, rfl, rfl⟩ | ⟨h1, rfl, h3⟩ | ⟨h1, rfl, rfl⟩ | ⟨h1, h2, h3, h4⟩ | ⟨h1, h2, h3, h4, rfl, rfl⟩
  · have e1 : ((0 : Int) == (Y : Int)) = false := by simp; omega
    clear HWays h3
    go_wp2_with (first | (go_at_call 13; refine (rX.out _).mono ?_; rintro e w' ⟨rfl, hw⟩; rw [hw]; clear hw) | (go_at_call 14; refine (rW.out _).mono ?_; rintro e w' ⟨rfl, hw⟩; rw [hw]; clear hw) | (go_at_call 15; refine (columns_any _ _).mono ?_; rintro e w' ⟨rfl, rfl⟩))
    obtain ⟨V, hV⟩ : ∃ V, (V3.alloc (.cells #[.int .i64 0] 3)).alloc (.cells #[.pointer (some ⟨b, 0, none⟩)] 22) = V := ⟨_, rfl⟩
    obtain ⟨sV, n0, p0, hSV⟩ := box2 V3 _ _ _ _ V hV
    rw [hV]
    obtain ⟨N, hN⟩ : ∃ N, V3.heap.size = N := ⟨_, rfl⟩
    rw [hN] at sV n0 p0 s3 ⊢
    have k0 := d0.stayed hSV
    have r0 := d1.stayed hSV
    have hBV : Below B w V := below_stay hB3 hSV (by omega)
    have hCV : CodeAt V b := hC3.stay hSV
    have hNV : N + 1 < V.heap.size := by omega
    clear hV hN hSV sV d0 d1 hB3 hC3 c0
    refine (wpIn_wide (n := 10)).1 (rangeC rfl (enters_of Tryd.func26 (by kernel_rfl) rfl) (columns_seq (N + 1) b V p0.lt p0.1 hCV) (fun _ => rfl)
      (fun x => x = N) (by rintro x rfl; exact ⟨by omega, fun h => h⟩) (by rintro x h; exact h.elim)
      (CoI B N k w) (fun c x W => c = .exit 0 ∧ ((x : Int) + 1 = k) ∧ CoI B N k w (x + 1) W)
      (by rintro x A C ⟨h1, h2, h3, h4⟩ hs; exact ⟨h1.stay hs, h2.stay hs, h3.stay hs, below_stay h4 hs (by omega)⟩)
      (by rintro c x A C ⟨h0, h00, h1, h2, h3, h4⟩ hs; exact ⟨h0, h00, h1.stay hs, h2.stay hs, h3.stay hs, below_stay h4 hs (by omega)⟩)
      ⟨n0, k0, r0, hBV⟩ (by rintro x W hx hp _; exact absurd trivial hp) ?round ?done ?stop)
    case round =>
      rintro l x W W2 hx _ ⟨g1, g2, g3, g4⟩
      have hcl := rC.out x hx
      obtain ⟨c, Hc⟩ : ∃ c, Hid (col x = c) := ⟨_, rfl⟩
      have HC : Hid (∀ w, Calls Tryd.prog 13 #[.int .i64 (x : Int)] w fun e w' => e = .returned (.int .u8 (c : Int)) ∧ w' = w) := by rw [← Hc.out]; exact hcl
      have fin : Hid (Keep (fun x => x = N) W2 (W2.setCell ⟨N, 0, none⟩ (.int .i64 ((x : Int) + 1))) ∧ CoI B N k w (x + 1) (W2.setCell ⟨N, 0, none⟩ (.int .i64 ((x : Int) + 1)))) :=
        ⟨(Keep.refl (fun x => x = N) W2).set (c := N) rfl _, g1.set _, g2.other (by omega) _, g3.other (by omega) _, g4.setCell (p := ⟨N, 0, none⟩) (by simp; omega) _⟩
      have q1 := g1.1; have f1 := g1.2; have q2 := g2.1
      have nN : B ≠ N := by omega
      have nN2 : N ≠ B := by omega
      clear g1 g2 g3 g4 hcl
      rw [Hc.out]
      by_cases hk : (x : Int) + 1 = k
      · have fin2 : Hid ((x : Int) + 1 = k) := hk
        have dk : (((x : Int) + 1) == k) = true := by simp [hk]
        clear hk
        gi_wp2
        try (refine ⟨trivial, ?_⟩)
        gi_wp2_with (first | (refine ⟨trivial, ?_⟩; gi_at_call 13; refine (CallsIn.inRound l (callsIn_wide.2 (HC.out _))).mono ?_; rintro e w' ⟨rfl, rfl⟩))
        exact ⟨fin.out.1, rfl, fin2.out, fin.out.2⟩
      · have dk : (((x : Int) + 1) == k) = false := by simpa using hk
        clear hk
        gi_wp2
        try (refine ⟨trivial, ?_⟩)
        gi_wp2_with (first | (refine ⟨trivial, ?_⟩; gi_at_call 13; refine (CallsIn.inRound l (callsIn_wide.2 (HC.out _))).mono ?_; rintro e w' ⟨rfl, rfl⟩))
        exact fin.out
    case done =>
      rintro D W hD ⟨g1, g2, g3, g4⟩ hK
      have q1 := g1.1; have q2 := g3.1; have f2 := g3.2
      obtain ⟨k1, k2, k3⟩ := leaves (u := .bool true) g3 hK (by omega) (by omega) (by omega) g4
      have fin : Hid _ := And.intro k1 (And.intro k2 k3)
      clear g1 g2 g3 g4 hK k1 k2 k3
      go_wp2
      refine ⟨by simp, .inl ⟨_, _, rfl, run_takeDeferred fin.out.1, ?_⟩⟩
      refine ⟨.bool true, ?_, rfl, by rw [hBB]; exact fin.out.2.2⟩
      simp [results, Tryd.f3, go_sem, fin.out.2.1]
    case stop =>
      rintro D c x W hD hx _ ⟨rfl, hk, g1, g2, g3, g4⟩ hK
      have q0 := g2.1
      have q1 := g1.1; have q2 := g3.1; have f2 := g3.2
      obtain ⟨k1, k2, k3⟩ := leaves (u := .bool true) g3 hK (by omega) (by omega) (by omega) g4
      have fin : Hid _ := And.intro k1 (And.intro k2 k3)
      have dk : (((x + 1 : Nat) : Int) == k) = true := by simpa using hk
      have dk' : (((x : Int) + 1) == k) = true := by simpa using hk
      clear g1 g2 g3 g4 hK k1 k2 k3 hk
      refine wpIn_wide.2 ?_
      by_cases h74 : x = 73
      · subst h74
        go_wp2
        refine ⟨by simp, .inl ⟨_, _, rfl, run_takeDeferred fin.out.1, ?_⟩⟩
        refine ⟨.bool true, ?_, rfl, by rw [hBB]; exact fin.out.2.2⟩
        simp [results, Tryd.f3, go_sem, fin.out.2.1]
      · have d74 : (((x : Int) + 1) == 74) = false := by simp; omega
        go_wp2
        refine ⟨by simp, .inl ⟨_, _, rfl, run_takeDeferred fin.out.1, ?_⟩⟩
        refine ⟨.bool true, ?_, rfl, by rw [hBB]; exact fin.out.2.2⟩
        simp [results, Tryd.f3, go_sem, fin.out.2.1]
  · clear HWays
    go_wp2_with (first | (go_at_call 13; refine (rX.out _).mono ?_; rintro e w' ⟨rfl, hw⟩; rw [hw]; clear hw) | (go_at_call 14; refine (rW.out _).mono ?_; rintro e w' ⟨rfl, hw⟩; rw [hw]; clear hw) | (go_at_call 15; refine (columns_any _ _).mono ?_; rintro e w' ⟨rfl, rfl⟩))
    obtain ⟨V, hV⟩ : ∃ V, (V3.alloc (.cells #[.int .i64 0] 3)).alloc (.cells #[.pointer (some ⟨b, 0, none⟩)] 22) = V := ⟨_, rfl⟩
    obtain ⟨sV, n0, p0, hSV⟩ := box2 V3 _ _ _ _ V hV
    rw [hV]
    obtain ⟨N, hN⟩ : ∃ N, V3.heap.size = N := ⟨_, rfl⟩
    rw [hN] at sV n0 p0 s3 ⊢
    have k0 := d0.stayed hSV
    have r0 := d1.stayed hSV
    have hBV : Below B w V := below_stay hB3 hSV (by omega)
    have hCV : CodeAt V b := hC3.stay hSV
    have hNV : N + 1 < V.heap.size := by omega
    clear hV hN hSV sV d0 d1 hB3 hC3 c0
    refine (wpIn_wide (n := 10)).1 (rangeC rfl (enters_of Tryd.func26 (by kernel_rfl) rfl) (columns_seq (N + 1) b V p0.lt p0.1 hCV) (fun _ => rfl)
      (fun x => x = N) (by rintro x rfl; exact ⟨by omega, fun h => h⟩) (by rintro x h; exact h.elim)
      (CoI B N k w) (fun c x W => c = .exit 0 ∧ ((x : Int) + 1 = k) ∧ CoI B N k w (x + 1) W)
      (by rintro x A C ⟨h1, h2, h3, h4⟩ hs; exact ⟨h1.stay hs, h2.stay hs, h3.stay hs, below_stay h4 hs (by omega)⟩)
      (by rintro c x A C ⟨h0, h00, h1, h2, h3, h4⟩ hs; exact ⟨h0, h00, h1.stay hs, h2.stay hs, h3.stay hs, below_stay h4 hs (by omega)⟩)
      ⟨n0, k0, r0, hBV⟩ (by rintro x W hx hp _; exact absurd trivial hp) ?round ?done ?stop)
    case round =>
      rintro l x W W2 hx _ ⟨g1, g2, g3, g4⟩
      have hcl := rC.out x hx
      obtain ⟨c, Hc⟩ : ∃ c, Hid (col x = c) := ⟨_, rfl⟩
      have HC : Hid (∀ w, Calls Tryd.prog 13 #[.int .i64 (x : Int)] w fun e w' => e = .returned (.int .u8 (c : Int)) ∧ w' = w) := by rw [← Hc.out]; exact hcl
      have fin : Hid (Keep (fun x => x = N) W2 (W2.setCell ⟨N, 0, none⟩ (.int .i64 ((x : Int) + 1))) ∧ CoI B N k w (x + 1) (W2.setCell ⟨N, 0, none⟩ (.int .i64 ((x : Int) + 1)))) :=
        ⟨(Keep.refl (fun x => x = N) W2).set (c := N) rfl _, g1.set _, g2.other (by omega) _, g3.other (by omega) _, g4.setCell (p := ⟨N, 0, none⟩) (by simp; omega) _⟩
      have q1 := g1.1; have f1 := g1.2; have q2 := g2.1
      have nN : B ≠ N := by omega
      have nN2 : N ≠ B := by omega
      clear g1 g2 g3 g4 hcl
      rw [Hc.out]
      by_cases hk : (x : Int) + 1 = k
      · have fin2 : Hid ((x : Int) + 1 = k) := hk
        have dk : (((x : Int) + 1) == k) = true := by simp [hk]
        clear hk
        gi_wp2
        try (refine ⟨trivial, ?_⟩)
        gi_wp2_with (first | (refine ⟨trivial, ?_⟩; gi_at_call 13; refine (CallsIn.inRound l (callsIn_wide.2 (HC.out _))).mono ?_; rintro e w' ⟨rfl, rfl⟩))
        exact ⟨fin.out.1, rfl, fin2.out, fin.out.2⟩
      · have dk : (((x : Int) + 1) == k) = false := by simpa using hk
        clear hk
        gi_wp2
        try (refine ⟨trivial, ?_⟩)
        gi_wp2_with (first | (refine ⟨trivial, ?_⟩; gi_at_call 13; refine (CallsIn.inRound l (callsIn_wide.2 (HC.out _))).mono ?_; rintro e w' ⟨rfl, rfl⟩))
        exact fin.out
    case done =>
      rintro D W hD ⟨g1, g2, g3, g4⟩ hK
      have q1 := g1.1; have q2 := g3.1; have f2 := g3.2
      obtain ⟨k1, k2, k3⟩ := leaves (u := .bool true) g3 hK (by omega) (by omega) (by omega) g4
      have fin : Hid _ := And.intro k1 (And.intro k2 k3)
      clear g1 g2 g3 g4 hK k1 k2 k3
      go_wp2
      refine ⟨by simp, .inl ⟨_, _, rfl, run_takeDeferred fin.out.1, ?_⟩⟩
      refine ⟨.bool true, ?_, rfl, by rw [hBB]; exact fin.out.2.2⟩
      simp [results, Tryd.f3, go_sem, fin.out.2.1]
    case stop =>
      rintro D c x W hD hx _ ⟨rfl, hk, g1, g2, g3, g4⟩ hK
      have q0 := g2.1
      have q1 := g1.1; have q2 := g3.1; have f2 := g3.2
      obtain ⟨k1, k2, k3⟩ := leaves (u := .bool true) g3 hK (by omega) (by omega) (by omega) g4
      have fin : Hid _ := And.intro k1 (And.intro k2 k3)
      have dk : (((x + 1 : Nat) : Int) == k) = true := by simpa using hk
      have dk' : (((x : Int) + 1) == k) = true := by simpa using hk
      clear g1 g2 g3 g4 hK k1 k2 k3 hk
      refine wpIn_wide.2 ?_
      by_cases h74 : x = 73
      · subst h74
        go_wp2
        refine ⟨by simp, .inl ⟨_, _, rfl, run_takeDeferred fin.out.1, ?_⟩⟩
        refine ⟨.bool true, ?_, rfl, by rw [hBB]; exact fin.out.2.2⟩
        simp [results, Tryd.f3, go_sem, fin.out.2.1]
      · have d74 : (((x : Int) + 1) == 74) = false := by simp; omega
        go_wp2
        refine ⟨by simp, .inl ⟨_, _, rfl, run_takeDeferred fin.out.1, ?_⟩⟩
        refine ⟨.bool true, ?_, rfl, by rw [hBB]; exact fin.out.2.2⟩
        simp [results, Tryd.f3, go_sem, fin.out.2.1]
  · have e1 : ((0 : Int) == (Y : Int)) = false := by simp; omega
    clear HWays h3
    go_wp2_with (first | (go_at_call 13; refine (rX.out _).mono ?_; rintro e w' ⟨rfl, hw⟩; rw [hw]; clear hw) | (go_at_call 14; refine (rW.out _).mono ?_; rintro e w' ⟨rfl, hw⟩; rw [hw]; clear hw) | (go_at_call 15; refine (columns_any _ _).mono ?_; rintro e w' ⟨rfl, rfl⟩))
    obtain ⟨V, hV⟩ : ∃ V, (V3.alloc (.cells #[.int .i64 0] 3)).alloc (.cells #[.pointer (some ⟨b, 0, none⟩)] 22) = V := ⟨_, rfl⟩
    obtain ⟨sV, n0, p0, hSV⟩ := box2 V3 _ _ _ _ V hV
    rw [hV]
    obtain ⟨N, hN⟩ : ∃ N, V3.heap.size = N := ⟨_, rfl⟩
    rw [hN] at sV n0 p0 s3 ⊢
    have k0 := d0.stayed hSV
    have r0 := d1.stayed hSV
    have hBV : Below B w V := below_stay hB3 hSV (by omega)
    have hCV : CodeAt V b := hC3.stay hSV
    have hNV : N + 1 < V.heap.size := by omega
    clear hV hN hSV sV d0 d1 hB3 hC3 c0
    refine (wpIn_wide (n := 10)).1 (rangeC rfl (enters_of Tryd.func26 (by kernel_rfl) rfl) (columns_seq (N + 1) b V p0.lt p0.1 hCV) (fun _ => rfl)
      (fun x => x = N) (by rintro x rfl; exact ⟨by omega, fun h => h⟩) (by rintro x h; exact h.elim)
      (CoI B N k w) (fun c x W => c = .exit 0 ∧ ((x : Int) + 1 = k) ∧ CoI B N k w (x + 1) W)
      (by rintro x A C ⟨h1, h2, h3, h4⟩ hs; exact ⟨h1.stay hs, h2.stay hs, h3.stay hs, below_stay h4 hs (by omega)⟩)
      (by rintro c x A C ⟨h0, h00, h1, h2, h3, h4⟩ hs; exact ⟨h0, h00, h1.stay hs, h2.stay hs, h3.stay hs, below_stay h4 hs (by omega)⟩)
      ⟨n0, k0, r0, hBV⟩ (by rintro x W hx hp _; exact absurd trivial hp) ?round ?done ?stop)
    case round =>
      rintro l x W W2 hx _ ⟨g1, g2, g3, g4⟩
      have hcl := rC.out x hx
      obtain ⟨c, Hc⟩ : ∃ c, Hid (col x = c) := ⟨_, rfl⟩
      have HC : Hid (∀ w, Calls Tryd.prog 13 #[.int .i64 (x : Int)] w fun e w' => e = .returned (.int .u8 (c : Int)) ∧ w' = w) := by rw [← Hc.out]; exact hcl
      have fin : Hid (Keep (fun x => x = N) W2 (W2.setCell ⟨N, 0, none⟩ (.int .i64 ((x : Int) + 1))) ∧ CoI B N k w (x + 1) (W2.setCell ⟨N, 0, none⟩ (.int .i64 ((x : Int) + 1)))) :=
        ⟨(Keep.refl (fun x => x = N) W2).set (c := N) rfl _, g1.set _, g2.other (by omega) _, g3.other (by omega) _, g4.setCell (p := ⟨N, 0, none⟩) (by simp; omega) _⟩
      have q1 := g1.1; have f1 := g1.2; have q2 := g2.1
      have nN : B ≠ N := by omega
      have nN2 : N ≠ B := by omega
      clear g1 g2 g3 g4 hcl
      rw [Hc.out]
      by_cases hk : (x : Int) + 1 = k
      · have fin2 : Hid ((x : Int) + 1 = k) := hk
        have dk : (((x : Int) + 1) == k) = true := by simp [hk]
        clear hk
        gi_wp2
        try (refine ⟨trivial, ?_⟩)
        gi_wp2_with (first | (refine ⟨trivial, ?_⟩; gi_at_call 13; refine (CallsIn.inRound l (callsIn_wide.2 (HC.out _))).mono ?_; rintro e w' ⟨rfl, rfl⟩))
        exact ⟨fin.out.1, rfl, fin2.out, fin.out.2⟩
      · have dk : (((x : Int) + 1) == k) = false := by simpa using hk
        clear hk
        gi_wp2
        try (refine ⟨trivial, ?_⟩)
        gi_wp2_with (first | (refine ⟨trivial, ?_⟩; gi_at_call 13; refine (CallsIn.inRound l (callsIn_wide.2 (HC.out _))).mono ?_; rintro e w' ⟨rfl, rfl⟩))
        exact fin.out
    case done =>
      rintro D W hD ⟨g1, g2, g3, g4⟩ hK
      have q1 := g1.1; have q2 := g3.1; have f2 := g3.2
      obtain ⟨k1, k2, k3⟩ := leaves (u := .bool true) g3 hK (by omega) (by omega) (by omega) g4
      have fin : Hid _ := And.intro k1 (And.intro k2 k3)
      clear g1 g2 g3 g4 hK k1 k2 k3
      go_wp2
      refine ⟨by simp, .inl ⟨_, _, rfl, run_takeDeferred fin.out.1, ?_⟩⟩
      refine ⟨.bool true, ?_, rfl, by rw [hBB]; exact fin.out.2.2⟩
      simp [results, Tryd.f3, go_sem, fin.out.2.1]
    case stop =>
      rintro D c x W hD hx _ ⟨rfl, hk, g1, g2, g3, g4⟩ hK
      have q0 := g2.1
      have q1 := g1.1; have q2 := g3.1; have f2 := g3.2
      obtain ⟨k1, k2, k3⟩ := leaves (u := .bool true) g3 hK (by omega) (by omega) (by omega) g4
      have fin : Hid _ := And.intro k1 (And.intro k2 k3)
      have dk : (((x + 1 : Nat) : Int) == k) = true := by simpa using hk
      have dk' : (((x : Int) + 1) == k) = true := by simpa using hk
      clear g1 g2 g3 g4 hK k1 k2 k3 hk
      refine wpIn_wide.2 ?_
      by_cases h74 : x = 73
      · subst h74
        go_wp2
        refine ⟨by simp, .inl ⟨_, _, rfl, run_takeDeferred fin.out.1, ?_⟩⟩
        refine ⟨.bool true, ?_, rfl, by rw [hBB]; exact fin.out.2.2⟩
        simp [results, Tryd.f3, go_sem, fin.out.2.1]
      · have d74 : (((x : Int) + 1) == 74) = false := by simp; omega
        go_wp2
        refine ⟨by simp, .inl ⟨_, _, rfl, run_takeDeferred fin.out.1, ?_⟩⟩
        refine ⟨.bool true, ?_, rfl, by rw [hBB]; exact fin.out.2.2⟩
        simp [results, Tryd.f3, go_sem, fin.out.2.1]
  · clear HWays
    go_wp2_with (first | (go_at_call 13; refine (rX.out _).mono ?_; rintro e w' ⟨rfl, hw⟩; rw [hw]; clear hw) | (go_at_call 14; refine (rW.out _).mono ?_; rintro e w' ⟨rfl, hw⟩; rw [hw]; clear hw) | (go_at_call 15; refine (columns_any _ _).mono ?_; rintro e w' ⟨rfl, rfl⟩))
    obtain ⟨V, hV⟩ : ∃ V, (V3.alloc (.cells #[.int .i64 0] 3)).alloc (.cells #[.pointer (some ⟨b, 0, none⟩)] 22) = V := ⟨_, rfl⟩
    obtain ⟨sV, n0, p0, hSV⟩ := box2 V3 _ _ _ _ V hV
    rw [hV]
    obtain ⟨N, hN⟩ : ∃ N, V3.heap.size = N := ⟨_, rfl⟩
    rw [hN] at sV n0 p0 s3 ⊢
    have k0 := d0.stayed hSV
    have r0 := d1.stayed hSV
    have hBV : Below B w V := below_stay hB3 hSV (by omega)
    have hCV : CodeAt V b := hC3.stay hSV
    have hNV : N + 1 < V.heap.size := by omega
    clear hV hN hSV sV d0 d1 hB3 hC3 c0
    refine (wpIn_wide (n := 10)).1 (rangeC rfl (enters_of Tryd.func26 (by kernel_rfl) rfl) (columns_seq (N + 1) b V p0.lt p0.1 hCV) (fun _ => rfl)
      (fun x => x = N) (by rintro x rfl; exact ⟨by omega, fun h => h⟩) (by rintro x h; exact h.elim)
      (CoI B N k w) (fun c x W => c = .exit 0 ∧ ((x : Int) + 1 = k) ∧ CoI B N k w (x + 1) W)
      (by rintro x A C ⟨h1, h2, h3, h4⟩ hs; exact ⟨h1.stay hs, h2.stay hs, h3.stay hs, below_stay h4 hs (by omega)⟩)
      (by rintro c x A C ⟨h0, h00, h1, h2, h3, h4⟩ hs; exact ⟨h0, h00, h1.stay hs, h2.stay hs, h3.stay hs, below_stay h4 hs (by omega)⟩)
      ⟨n0, k0, r0, hBV⟩ (by rintro x W hx hp _; exact absurd trivial hp) ?round ?done ?stop)
    case round =>
      rintro l x W W2 hx _ ⟨g1, g2, g3, g4⟩
      have hcl := rC.out x hx
      obtain ⟨c, Hc⟩ : ∃ c, Hid (col x = c) := ⟨_, rfl⟩
      have HC : Hid (∀ w, Calls Tryd.prog 13 #[.int .i64 (x : Int)] w fun e w' => e = .returned (.int .u8 (c : Int)) ∧ w' = w) := by rw [← Hc.out]; exact hcl
      have fin : Hid (Keep (fun x => x = N) W2 (W2.setCell ⟨N, 0, none⟩ (.int .i64 ((x : Int) + 1))) ∧ CoI B N k w (x + 1) (W2.setCell ⟨N, 0, none⟩ (.int .i64 ((x : Int) + 1)))) :=
        ⟨(Keep.refl (fun x => x = N) W2).set (c := N) rfl _, g1.set _, g2.other (by omega) _, g3.other (by omega) _, g4.setCell (p := ⟨N, 0, none⟩) (by simp; omega) _⟩
      have q1 := g1.1; have f1 := g1.2; have q2 := g2.1
      have nN : B ≠ N := by omega
      have nN2 : N ≠ B := by omega
      clear g1 g2 g3 g4 hcl
      rw [Hc.out]
      by_cases hk : (x : Int) + 1 = k
      · have fin2 : Hid ((x : Int) + 1 = k) := hk
        have dk : (((x : Int) + 1) == k) = true := by simp [hk]
        clear hk
        gi_wp2
        try (refine ⟨trivial, ?_⟩)
        gi_wp2_with (first | (refine ⟨trivial, ?_⟩; gi_at_call 13; refine (CallsIn.inRound l (callsIn_wide.2 (HC.out _))).mono ?_; rintro e w' ⟨rfl, rfl⟩))
        exact ⟨fin.out.1, rfl, fin2.out, fin.out.2⟩
      · have dk : (((x : Int) + 1) == k) = false := by simpa using hk
        clear hk
        gi_wp2
        try (refine ⟨trivial, ?_⟩)
        gi_wp2_with (first | (refine ⟨trivial, ?_⟩; gi_at_call 13; refine (CallsIn.inRound l (callsIn_wide.2 (HC.out _))).mono ?_; rintro e w' ⟨rfl, rfl⟩))
        exact fin.out
    case done =>
      rintro D W hD ⟨g1, g2, g3, g4⟩ hK
      have q1 := g1.1; have q2 := g3.1; have f2 := g3.2
      obtain ⟨k1, k2, k3⟩ := leaves (u := .bool true) g3 hK (by omega) (by omega) (by omega) g4
      have fin : Hid _ := And.intro k1 (And.intro k2 k3)
      clear g1 g2 g3 g4 hK k1 k2 k3
      go_wp2
      refine ⟨by simp, .inl ⟨_, _, rfl, run_takeDeferred fin.out.1, ?_⟩⟩
      refine ⟨.bool true, ?_, rfl, by rw [hBB]; exact fin.out.2.2⟩
      simp [results, Tryd.f3, go_sem, fin.out.2.1]
    case stop =>
      rintro D c x W hD hx _ ⟨rfl, hk, g1, g2, g3, g4⟩ hK
      have q0 := g2.1
      have q1 := g1.1; have q2 := g3.1; have f2 := g3.2
      obtain ⟨k1, k2, k3⟩ := leaves (u := .bool true) g3 hK (by omega) (by omega) (by omega) g4
      have fin : Hid _ := And.intro k1 (And.intro k2 k3)
      have dk : (((x + 1 : Nat) : Int) == k) = true := by simpa using hk
      have dk' : (((x : Int) + 1) == k) = true := by simpa using hk
      clear g1 g2 g3 g4 hK k1 k2 k3 hk
      refine wpIn_wide.2 ?_
      by_cases h74 : x = 73
      · subst h74
        go_wp2
        refine ⟨by simp, .inl ⟨_, _, rfl, run_takeDeferred fin.out.1, ?_⟩⟩
        refine ⟨.bool true, ?_, rfl, by rw [hBB]; exact fin.out.2.2⟩
        simp [results, Tryd.f3, go_sem, fin.out.2.1]
      · have d74 : (((x : Int) + 1) == 74) = false := by simp; omega
        go_wp2
        refine ⟨by simp, .inl ⟨_, _, rfl, run_takeDeferred fin.out.1, ?_⟩⟩
        refine ⟨.bool true, ?_, rfl, by rw [hBB]; exact fin.out.2.2⟩
        simp [results, Tryd.f3, go_sem, fin.out.2.1]
  · have e1 : ((X : Int) == (Y : Int)) = false := by simp; omega
    have e2 : ((n : Int).tmod 2 == 1) = true := by rw [Int.tmod_eq_emod_of_nonneg (by omega)]; simp; omega
    have e3 : (n : Int) % 2 = 1 := by omega
    clear HWays h4
    go_wp2_with (first | (go_at_call 13; refine (rX.out _).mono ?_; rintro e w' ⟨rfl, hw⟩; rw [hw]; clear hw) | (go_at_call 14; refine (rW.out _).mono ?_; rintro e w' ⟨rfl, hw⟩; rw [hw]; clear hw) | (go_at_call 15; refine (columns_any _ _).mono ?_; rintro e w' ⟨rfl, rfl⟩))
    obtain ⟨V, hV⟩ : ∃ V, (V3.alloc (.cells #[.int .i64 0] 3)).alloc (.cells #[.pointer (some ⟨b, 0, none⟩)] 22) = V := ⟨_, rfl⟩
    obtain ⟨sV, n0, p0, hSV⟩ := box2 V3 _ _ _ _ V hV
    rw [hV]
    obtain ⟨N, hN⟩ : ∃ N, V3.heap.size = N := ⟨_, rfl⟩
    rw [hN] at sV n0 p0 s3 ⊢
    have k0 := d0.stayed hSV
    have r0 := d1.stayed hSV
    have hBV : Below B w V := below_stay hB3 hSV (by omega)
    have hCV : CodeAt V b := hC3.stay hSV
    have hNV : N + 1 < V.heap.size := by omega
    clear hV hN hSV sV d0 d1 hB3 hC3 c0
    refine (wpIn_wide (n := 10)).1 (rangeC rfl (enters_of Tryd.func26 (by kernel_rfl) rfl) (columns_seq (N + 1) b V p0.lt p0.1 hCV) (fun _ => rfl)
      (fun x => x = N) (by rintro x rfl; exact ⟨by omega, fun h => h⟩) (by rintro x h; exact h.elim)
      (CoI B N k w) (fun c x W => c = .exit 0 ∧ ((x : Int) + 1 = k) ∧ CoI B N k w (x + 1) W)
      (by rintro x A C ⟨h1, h2, h3, h4⟩ hs; exact ⟨h1.stay hs, h2.stay hs, h3.stay hs, below_stay h4 hs (by omega)⟩)
      (by rintro c x A C ⟨h0, h00, h1, h2, h3, h4⟩ hs; exact ⟨h0, h00, h1.stay hs, h2.stay hs, h3.stay hs, below_stay h4 hs (by omega)⟩)
      ⟨n0, k0, r0, hBV⟩ (by rintro x W hx hp _; exact absurd trivial hp) ?round ?done ?stop)
    case round =>
      rintro l x W W2 hx _ ⟨g1, g2, g3, g4⟩
      have hcl := rC.out x hx
      obtain ⟨c, Hc⟩ : ∃ c, Hid (col x = c) := ⟨_, rfl⟩
      have HC : Hid (∀ w, Calls Tryd.prog 13 #[.int .i64 (x : Int)] w fun e w' => e = .returned (.int .u8 (c : Int)) ∧ w' = w) := by rw [← Hc.out]; exact hcl
      have fin : Hid (Keep (fun x => x = N) W2 (W2.setCell ⟨N, 0, none⟩ (.int .i64 ((x : Int) + 1))) ∧ CoI B N k w (x + 1) (W2.setCell ⟨N, 0, none⟩ (.int .i64 ((x : Int) + 1)))) :=
        ⟨(Keep.refl (fun x => x = N) W2).set (c := N) rfl _, g1.set _, g2.other (by omega) _, g3.other (by omega) _, g4.setCell (p := ⟨N, 0, none⟩) (by simp; omega) _⟩
      have q1 := g1.1; have f1 := g1.2; have q2 := g2.1
      have nN : B ≠ N := by omega
      have nN2 : N ≠ B := by omega
      clear g1 g2 g3 g4 hcl
      rw [Hc.out]
      by_cases hk : (x : Int) + 1 = k
      · have fin2 : Hid ((x : Int) + 1 = k) := hk
        have dk : (((x : Int) + 1) == k) = true := by simp [hk]
        clear hk
        gi_wp2
        try (refine ⟨trivial, ?_⟩)
        gi_wp2_with (first | (refine ⟨trivial, ?_⟩; gi_at_call 13; refine (CallsIn.inRound l (callsIn_wide.2 (HC.out _))).mono ?_; rintro e w' ⟨rfl, rfl⟩))
        exact ⟨fin.out.1, rfl, fin2.out, fin.out.2⟩
      · have dk : (((x : Int) + 1) == k) = false := by simpa using hk
        clear hk
        gi_wp2
        try (refine ⟨trivial, ?_⟩)
        gi_wp2_with (first | (refine ⟨trivial, ?_⟩; gi_at_call 13; refine (CallsIn.inRound l (callsIn_wide.2 (HC.out _))).mono ?_; rintro e w' ⟨rfl, rfl⟩))
        exact fin.out
    case done =>
      rintro D W hD ⟨g1, g2, g3, g4⟩ hK
      have q1 := g1.1; have q2 := g3.1; have f2 := g3.2
      obtain ⟨k1, k2, k3⟩ := leaves (u := .bool true) g3 hK (by omega) (by omega) (by omega) g4
      have fin : Hid _ := And.intro k1 (And.intro k2 k3)
      clear g1 g2 g3 g4 hK k1 k2 k3
      go_wp2
      refine ⟨by simp, .inl ⟨_, _, rfl, run_takeDeferred fin.out.1, ?_⟩⟩
      refine ⟨.bool true, ?_, rfl, by rw [hBB]; exact fin.out.2.2⟩
      simp [results, Tryd.f3, go_sem, fin.out.2.1]
    case stop =>
      rintro D c x W hD hx _ ⟨rfl, hk, g1, g2, g3, g4⟩ hK
      have q0 := g2.1
      have q1 := g1.1; have q2 := g3.1; have f2 := g3.2
      obtain ⟨k1, k2, k3⟩ := leaves (u := .bool true) g3 hK (by omega) (by omega) (by omega) g4
      have fin : Hid _ := And.intro k1 (And.intro k2 k3)
      have dk : (((x + 1 : Nat) : Int) == k) = true := by simpa using hk
      have dk' : (((x : Int) + 1) == k) = true := by simpa using hk
      clear g1 g2 g3 g4 hK k1 k2 k3 hk
      refine wpIn_wide.2 ?_
      by_cases h74 : x = 73
      · subst h74
        go_wp2
        refine ⟨by simp, .inl ⟨_, _, rfl, run_takeDeferred fin.out.1, ?_⟩⟩
        refine ⟨.bool true, ?_, rfl, by rw [hBB]; exact fin.out.2.2⟩
        simp [results, Tryd.f3, go_sem, fin.out.2.1]
      · have d74 : (((x : Int) + 1) == 74) = false := by simp; omega
        go_wp2
        refine ⟨by simp, .inl ⟨_, _, rfl, run_takeDeferred fin.out.1, ?_⟩⟩
        refine ⟨.bool true, ?_, rfl, by rw [hBB]; exact fin.out.2.2⟩
        simp [results, Tryd.f3, go_sem, fin.out.2.1]
  · have e1 : ((X : Int) == 0) = false := by simp; omega
    have e2 : ((n : Int).tmod 2 == 1) = true := by rw [Int.tmod_eq_emod_of_nonneg (by omega)]; simp; omega
    have e3 : (n : Int) % 2 = 1 := by omega
    clear HWays
    go_wp2_with (first | (go_at_call 13; refine (rX.out _).mono ?_; rintro e w' ⟨rfl, hw⟩; rw [hw]; clear hw) | (go_at_call 14; refine (rW.out _).mono ?_; rintro e w' ⟨rfl, hw⟩; rw [hw]; clear hw) | (go_at_call 15; refine (columns_any _ _).mono ?_; rintro e w' ⟨rfl, rfl⟩))
    obtain ⟨V, hV⟩ : ∃ V, (V3.alloc (.cells #[.int .i64 0] 3)).alloc (.cells #[.pointer (some ⟨b, 0, none⟩)] 22) = V := ⟨_, rfl⟩
    obtain ⟨sV, n0, p0, hSV⟩ := box2 V3 _ _ _ _ V hV
    rw [hV]
    obtain ⟨N, hN⟩ : ∃ N, V3.heap.size = N := ⟨_, rfl⟩
    rw [hN] at sV n0 p0 s3 ⊢
    have k0 := d0.stayed hSV
    have r0 := d1.stayed hSV
    have hBV : Below B w V := below_stay hB3 hSV (by omega)
    have hCV : CodeAt V b := hC3.stay hSV
    have hNV : N + 1 < V.heap.size := by omega
    clear hV hN hSV sV d0 d1 hB3 hC3 c0
    refine (wpIn_wide (n := 10)).1 (rangeC rfl (enters_of Tryd.func26 (by kernel_rfl) rfl) (columns_seq (N + 1) b V p0.lt p0.1 hCV) (fun _ => rfl)
      (fun x => x = N) (by rintro x rfl; exact ⟨by omega, fun h => h⟩) (by rintro x h; exact h.elim)
      (CoI B N i w) (fun c x W => c = .exit 0 ∧ ((x : Int) + 1 = i) ∧ CoI B N i w (x + 1) W)
      (by rintro x A C ⟨h1, h2, h3, h4⟩ hs; exact ⟨h1.stay hs, h2.stay hs, h3.stay hs, below_stay h4 hs (by omega)⟩)
      (by rintro c x A C ⟨h0, h00, h1, h2, h3, h4⟩ hs; exact ⟨h0, h00, h1.stay hs, h2.stay hs, h3.stay hs, below_stay h4 hs (by omega)⟩)
      ⟨n0, k0, r0, hBV⟩ (by rintro x W hx hp _; exact absurd trivial hp) ?round ?done ?stop)
    case round =>
      rintro l x W W2 hx _ ⟨g1, g2, g3, g4⟩
      have hcl := rC.out x hx
      obtain ⟨c, Hc⟩ : ∃ c, Hid (col x = c) := ⟨_, rfl⟩
      have HC : Hid (∀ w, Calls Tryd.prog 13 #[.int .i64 (x : Int)] w fun e w' => e = .returned (.int .u8 (c : Int)) ∧ w' = w) := by rw [← Hc.out]; exact hcl
      have fin : Hid (Keep (fun x => x = N) W2 (W2.setCell ⟨N, 0, none⟩ (.int .i64 ((x : Int) + 1))) ∧ CoI B N i w (x + 1) (W2.setCell ⟨N, 0, none⟩ (.int .i64 ((x : Int) + 1)))) :=
        ⟨(Keep.refl (fun x => x = N) W2).set (c := N) rfl _, g1.set _, g2.other (by omega) _, g3.other (by omega) _, g4.setCell (p := ⟨N, 0, none⟩) (by simp; omega) _⟩
      have q1 := g1.1; have f1 := g1.2; have q2 := g2.1
      have nN : B ≠ N := by omega
      have nN2 : N ≠ B := by omega
      clear g1 g2 g3 g4 hcl
      rw [Hc.out]
      by_cases hk : (x : Int) + 1 = i
      · have fin2 : Hid ((x : Int) + 1 = i) := hk
        have dk : (((x : Int) + 1) == i) = true := by simp [hk]
        clear hk
        gi_wp2
        try (refine ⟨trivial, ?_⟩)
        gi_wp2_with (first | (refine ⟨trivial, ?_⟩; gi_at_call 13; refine (CallsIn.inRound l (callsIn_wide.2 (HC.out _))).mono ?_; rintro e w' ⟨rfl, rfl⟩))
        exact ⟨fin.out.1, rfl, fin2.out, fin.out.2⟩
      · have dk : (((x : Int) + 1) == i) = false := by simpa using hk
        clear hk
        gi_wp2
        try (refine ⟨trivial, ?_⟩)
        gi_wp2_with (first | (refine ⟨trivial, ?_⟩; gi_at_call 13; refine (CallsIn.inRound l (callsIn_wide.2 (HC.out _))).mono ?_; rintro e w' ⟨rfl, rfl⟩))
        exact fin.out
    case done =>
      rintro D W hD ⟨g1, g2, g3, g4⟩ hK
      have q1 := g1.1; have q2 := g3.1; have f2 := g3.2
      obtain ⟨k1, k2, k3⟩ := leaves (u := .bool true) g3 hK (by omega) (by omega) (by omega) g4
      have fin : Hid _ := And.intro k1 (And.intro k2 k3)
      clear g1 g2 g3 g4 hK k1 k2 k3
      go_wp2
      refine ⟨by simp, .inl ⟨_, _, rfl, run_takeDeferred fin.out.1, ?_⟩⟩
      refine ⟨.bool true, ?_, rfl, by rw [hBB]; exact fin.out.2.2⟩
      simp [results, Tryd.f3, go_sem, fin.out.2.1]
    case stop =>
      rintro D c x W hD hx _ ⟨rfl, hk, g1, g2, g3, g4⟩ hK
      have q0 := g2.1
      have q1 := g1.1; have q2 := g3.1; have f2 := g3.2
      obtain ⟨k1, k2, k3⟩ := leaves (u := .bool true) g3 hK (by omega) (by omega) (by omega) g4
      have fin : Hid _ := And.intro k1 (And.intro k2 k3)
      have dk : (((x + 1 : Nat) : Int) == i) = true := by simpa using hk
      have dk' : (((x : Int) + 1) == i) = true := by simpa using hk
      clear g1 g2 g3 g4 hK k1 k2 k3 hk
      refine wpIn_wide.2 ?_
      by_cases h74 : x = 73
      · subst h74
        go_wp2
        refine ⟨by simp, .inl ⟨_, _, rfl, run_takeDeferred fin.out.1, ?_⟩⟩
        refine ⟨.bool true, ?_, rfl, by rw [hBB]; exact fin.out.2.2⟩
        simp [results, Tryd.f3, go_sem, fin.out.2.1]
      · have d74 : (((x : Int) + 1) == 74) = false := by simp; omega
        go_wp2
        refine ⟨by simp, .inl ⟨_, _, rfl, run_takeDeferred fin.out.1, ?_⟩⟩
        refine ⟨.bool true, ?_, rfl, by rw [hBB]; exact fin.out.2.2⟩
        simp [results, Tryd.f3, go_sem, fin.out.2.1]
end Go.Proofs.YtcabfhndcckjdaaDoor
