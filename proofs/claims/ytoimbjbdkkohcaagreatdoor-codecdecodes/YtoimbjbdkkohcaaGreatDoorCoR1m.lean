/-
  The document's Bits: a word's verdict and data in the mode 1.
-/
import Derived.Test.YtoimbjbdkkohcaaGreatDoorM17
import Derived.Test.YtoimbjbdkkohcaaGreatDoorM02
import Derived.Test.YtoimbjbdkkohcaaGreatDoorM11
import Derived.Test.YtoimbjbdkkohcaaGreatDoorM10
namespace Go.Proofs.YtoimbjbdkkohcaaGreatDoor
open Go.RowKit Go.Shelf
open Bm (wt wtK)
open Hm (syn kd pl)
open Ln (val wrd)
attribute [local go_sem] Oper.semAt_some

theorem idx5_0 (w : World) : (Instr.index 109 (.agg #[.int .i64 0, .int .i64 1, .int .i64 2, .int .i64 3, .int .i64 3]) (.int .i64 0)).run Tryz.prog w = .ok (.int .i64 0) w := by kernel_rfl
theorem idx5_1 (w : World) : (Instr.index 109 (.agg #[.int .i64 0, .int .i64 1, .int .i64 2, .int .i64 3, .int .i64 3]) (.int .i64 1)).run Tryz.prog w = .ok (.int .i64 1) w := by kernel_rfl
theorem idx5_2 (w : World) : (Instr.index 109 (.agg #[.int .i64 0, .int .i64 1, .int .i64 2, .int .i64 3, .int .i64 3]) (.int .i64 2)).run Tryz.prog w = .ok (.int .i64 2) w := by kernel_rfl
theorem idx5_3 (w : World) : (Instr.index 109 (.agg #[.int .i64 0, .int .i64 1, .int .i64 2, .int .i64 3, .int .i64 3]) (.int .i64 3)).run Tryz.prog w = .ok (.int .i64 3) w := by kernel_rfl
theorem idx5_4 (w : World) : (Instr.index 109 (.agg #[.int .i64 0, .int .i64 1, .int .i64 2, .int .i64 3, .int .i64 3]) (.int .i64 4)).run Tryz.prog w = .ok (.int .i64 3) w := by kernel_rfl
set_option maxRecDepth 100000 in
set_option maxHeartbeats 1000000 in
theorem refBits10_any (R : Nat → Int) (hR : Byts 72 R) (k : Nat) (hk : k < 8) (ix : Int) (w : World) :
    Calls Tryz.prog 26 #[.agg colsL.toArray, .agg (ints .u8 72 R).toArray, .int .i64 (k : Int), .int .i64 ix] w fun e w' => e = .returned (.tuple #[.int .u64 (fB R (par ix) k : Int), .int .i64 (vB R (par ix) k)]) ∧ Below w.heap.size w w' := by
  obtain ⟨nx, hnx⟩ : ∃ n : Nat, ix % 8388608 = (n : Int) := ⟨(ix % 8388608).toNat, by omega⟩
  have hnl : nx < 8388608 := by omega
  have hw1 : (IntKind.u64.wrap ix).tmod 8388608 = (nx : Int) := by
    have : IntKind.u64.wrap ix = ix % 18446744073709551616 := rfl
    rw [this, Int.tmod_eq_emod_of_nonneg (by omega)]; omega
  obtain ⟨wx, pa, hwx, hpa, cW⟩ : ∃ wx pa : Nat, wx ≤ 64 ∧ (par ix = (pa : Int) ∧ pa = wx % 2) ∧ ∀ w : World, Calls Tryz.prog 19 #[.int .u64 (nx : Int)] w fun e w' => e = .returned (.int .i64 (wx : Int)) ∧ w' = w :=
    ⟨wt nx, wt nx % 2, Bm.wt_le nx, ⟨by unfold par; rw [hnx]; rfl, rfl⟩, fun w => refWeight_any nx (by omega) w⟩
  have CW : Hid (∀ w : World, Calls Tryz.prog 19 #[.int .u64 (nx : Int)] w fun e w' => e = .returned (.int .i64 (wx : Int)) ∧ w' = w) := cW
  have hpar := hpa.1
  have hmod : (wx : Int).tmod 2 = (pa : Int) := by rw [Int.tmod_eq_emod_of_nonneg (by omega), hpa.2]; omega
  have hcl := Co.cw_lt hR k hk
  have hdl := Co.dw_lt hR k hk
  have cS := fun w => refSyndrome_any (Co.dw R k) (Co.cw R k) (pa : Int) 0 hdl hcl w
  have hsl := Hm.syn_lt (Co.dw R k) (Co.cw R k) (pa : Int) 0 hcl
  obtain ⟨s, hs⟩ : ∃ s, syn (Co.dw R k) (Co.cw R k) (pa : Int) 0 = s := ⟨_, rfl⟩
  rw [hs] at cS hsl
  have cC := fun w => refClassify_any s hsl w
  obtain ⟨D, hD⟩ : ∃ D, Co.dw R k = D := ⟨_, rfl⟩
  obtain ⟨C, hC⟩ : ∃ C, Co.cw R k = C := ⟨_, rfl⟩
  have hfb : fB R (par ix) k = fx D s := by
    unfold fB Co.sB
    rw [hpar, hs, hD]
  have hvb : vB R (par ix) k = kB s := by
    unfold vB Co.sB
    rw [hpar, hs]
  rw [hfb, hvb]
  have HC : Hid (R (9 * k + 8) = (C : Int)) := by
    have := hR (9 * k + 8) (by omega)
    show _ = _
    rw [← hC]
    unfold Co.cw
    omega
  have HD : Hid (D = val (fun i => (R i).toNat) 8 (9 * k)) := hD.symm
  rw [hD, hC] at cS
  rw [hD] at hdl
  rw [hC] at hcl
  obtain ⟨A1, hA1⟩ : ∃ A, (ints .u8 72 R).toArray = A := ⟨_, rfl⟩
  have CS : Hid (∀ w : World, Calls Tryz.prog 20 #[.agg colsL.toArray, .int .u64 (D : Int), .int .u8 (C : Int), .int .i64 (pa : Int), .int .i64 0] w fun e w' => e = .returned (.int .u8 (s : Int)) ∧ Below w.heap.size w w') := cS
  have CC : Hid (∀ w : World, Calls Tryz.prog 54 #[.agg colsL.toArray, .int .u8 (s : Int)] w fun e w' => e = .returned (.tuple #[.int .i64 (kd s), .int .i64 (pl s)]) ∧ Below w.heap.size w w') := cC
  have h5 : kd s = 0 ∨ kd s = 1 ∨ kd s = 2 ∨ kd s = 3 ∨ kd s = 4 := by
    unfold kd
    split
    · exact .inl rfl
    · split
      · exact .inr (.inr (.inr (.inr rfl)))
      · split
        · exact .inr (.inr (.inr (.inl rfl)))
        · split
          · exact .inr (.inr (.inl rfl))
          · exact .inr (.inl rfl)
  have H5 : Hid (kd s = 0 ∨ kd s = 1 ∨ kd s = 2 ∨ kd s = 3 ∨ kd s = 4) := h5
  have HR : Hid (Byts 72 R) := hR
  have HI : Hid (∀ V, V = (w.alloc (.cells colsL.toArray 43)).alloc (.cells A1 26) → (V.rangeAt w.heap.size 0 colsL ∧ w.heap.size < V.heap.size) ∧ Bk .u8 V (w.heap.size + 1) 72 R ∧ Below w.heap.size w V) := fun V hV => by
    subst hV
    rw [← hA1]
    have h1 := Bk.new .u8 (w.alloc (.cells colsL.toArray 43)) 72 R 26
    simp only [World.size_alloc] at h1
    refine ⟨⟨World.rangeAt_alloc (fun j v hv => ?_) _, by simp; omega⟩, h1, ((Below.refl _ w).alloc (Nat.le_refl _) _).alloc (by simp) _⟩
    rw [World.cell?_alloc_new]
    simpa using hv
  rw [hA1]
  clear cS cC h5 hD hC hs hfb hvb hnx hpar hpa hR hA1 cW
  go_enter Tryz.func26, Tryz.ntmps26
  go_wp2
  obtain ⟨V, hV⟩ : ∃ V, (w.alloc (.cells colsL.toArray 43)).alloc (.cells A1 26) = V := ⟨_, rfl⟩
  have HV : Hid ((V.rangeAt w.heap.size 0 colsL ∧ w.heap.size < V.heap.size) ∧ Bk .u8 V (w.heap.size + 1) 72 R ∧ Below w.heap.size w V) := HI.out V hV.symm
  rw [hV]
  clear hV HI
  go_loop [10, 11] (fun x i => ∃ j y : Nat, j ≤ 8 ∧ y < 18446744073709551616 ∧ Hid (y = val (fun i => (R i).toNat) (8 - j) (9 * k + j)) ∧ x = .int .u64 (y : Int) ∧ i = .int .i64 ((j : Int) - 1)) (fun _ i => ((intOf i) + 1).toNat)
  case atStart => exact ⟨8, 0, by omega, by omega, rfl, rfl, rfl⟩
  case round =>
    obtain ⟨j, y, hj, hy, Hy, rfl, rfl⟩ := hrel
    by_cases hlt : 1 ≤ j
    · obtain ⟨i, rfl⟩ : ∃ i, j = i + 1 := ⟨j - 1, by omega⟩
      have c0 := HV.out.2.1.cell (9 * k + i) (by omega)
      have hb := HR.out (9 * k + i) (by omega)
      obtain ⟨b, hb', Hb⟩ : ∃ b : Nat, b < 256 ∧ Hid (R (9 * k + i) = (b : Int)) := ⟨(R (9 * k + i)).toNat, by omega, by show _ = _; omega⟩
      rw [Hb.out] at c0
      have hyl : y < 72057594037927936 := by
        rw [Hy.out]
        have := Ln.val_lt (fun i => (R i).toNat) (8 - (i + 1)) (9 * k + (i + 1)) (fun j _ h2 => by have := HR.out j (by omega); show (R j).toNat < 256; omega)
        exact Nat.lt_of_lt_of_le this (by rw [show 72057594037927936 = 256 ^ 7 from rfl]; exact Nat.pow_le_pow_right (by omega) (by omega))
      have HN : Hid (256 * y + b = val (fun i => (R i).toNat) (8 - i) (9 * k + i)) := by
        show _ = _
        rw [show 8 - i = (8 - (i + 1)) + 1 from by omega, Ln.val, Hy.out, Hb.out]
        show 256 * val (fun i => (R i).toNat) (8 - (i + 1)) (9 * k + (i + 1)) + b = ((b : Int)).toNat + 256 * val (fun i => (R i).toNat) (8 - (i + 1)) (9 * k + i + 1)
        rw [Nat.add_assoc]; omega
      have ei : ((i + 1 : Nat) : Int) - 1 = (i : Int) := by omega
      rw [ei]
      clear Hy hb
      go_wp2
      go_round
      case rel => exact ⟨i, 256 * y + b, by omega, by omega, HN, by first | rfl | go_num, by first | rfl | go_num⟩
      case measure => simp [intOf]
    · obtain rfl : j = 0 := by omega
      have He : (y : Int) = (D : Int) := by rw [Hy.out, HD.out]; rfl
      rw [He]
      clear Hy He hy HD
      go_upto_region 7 with (go_at_call 19; refine (CW.out _).mono ?_; rintro e w' ⟨rfl, hw2⟩; rw [hw2]; clear hw2 w')
      refine region_calm (by kernel_rfl) (by kernel_rfl) (fun W => Below V.heap.size V W) (below_drew1 V) ?_
      intro U hU fw hf hof
      have HU : Hid (∀ x W, Below (fw x).heap.size (fw x) W → ∃ y, W = fw y) := fun x W h => hof W ((hf x).trans (h.mono (hf x).size))
      have HE : Hid (∀ u, (fw u).rangeAt w.heap.size 0 colsL ∧ Below w.heap.size w (fw u)) := fun u => ⟨fun j v hv => (World.cell?_of_block (w := V) (a := ⟨w.heap.size, 0 + j, none⟩) ((hf u).block _ HV.out.1.2)).trans (HV.out.1.1 j v hv), HV.out.2.2.trans ((hf u).mono HV.out.2.2.size)⟩
      have c8 : ∀ u, (fw u).cell? ⟨w.heap.size + 1, 9 * k + 8, none⟩ = some (.int .u8 (C : Int)) := fun u => by rw [← HC.out]; exact (HV.out.2.1.next (hf u)).cell (9 * k + 8) (by omega)
      clear hf hof
      (refine quiet_load (by rfl) 43 _ rfl w.heap.size 0 rfl colsL _ (by rintro _ ⟨u, rfl⟩; exact (HE.out u).1) Tryz.underlying43 rfl info_cols ?_; simp only [Act.put, List.setIfInBounds_toArray, List.set_cons_zero, List.set_cons_succ])
      (refine quiet_load (by rfl) 43 _ rfl w.heap.size 0 rfl colsL _ (by rintro _ ⟨u, rfl⟩; exact (HE.out u).1) Tryz.underlying43 rfl info_cols ?_; simp only [Act.put, List.setIfInBounds_toArray, List.set_cons_zero, List.set_cons_succ])
      go_big_quiet_step (fail)
      go_big_quiet_step (fail)
      go_big_quiet_step (fail)
      go_big_quiet_step (fail)
      go_big_quiet_step (fail)
      go_big_quiet_step (fail)
      go_big_quiet_step (fail)
      go_big_quiet_step ((go_at_call 20; exact calm_next HU.out (CS.out _)))
      go_big_quiet_step ((go_at_call 54; exact calm_next HU.out (CC.out _)))
      go_big_quiet_step (fail)
      go_big_quiet_step (fail)
      go_big_quiet_step (fail)
      go_big_quiet_step (fail)
      go_big_quiet_step (fail)
      refine wpQuiet_nil ?_
      rintro _ ⟨u9, rfl⟩
      have HB : Hid (Below w.heap.size w (fw u9)) := (HE.out u9).2
      obtain ⟨W3, hW3⟩ : ∃ W, fw u9 = W := ⟨_, rfl⟩
      rw [hW3] at HB ⊢
      clear hW3 HU HE hU c8 HV CS CC CW HC hmod hw1
      rcases H5.out with hk5 | hk5 | hk5 | hk5 | hk5
      · skip
        have HF : Hid (fx D s = D) := by show _ = _; unfold fx; rw [if_neg (by rw [hk5]; omega)]
        have HK : Hid (kB s = 0) := by show _ = _; unfold kB; rw [hk5]; rfl
        rw [hk5]
        clear hk5
        go_upto_region 15 with fail
        refine region_calm (by kernel_rfl) (by kernel_rfl) (fun W => Below W3.heap.size W3 W) (below_drew1 W3) ?_
        intro U hU fw hf hof
        have HE : Hid (∀ u, Below w.heap.size w (fw u)) := fun u => HB.out.trans ((hf u).mono HB.out.size)
        clear hf hof
        go_big_quiet_step (fail)
        go_big_quiet_step (fail)
        go_big_quiet_step (fail)
        (refine quiet_one (by rfl) (.int .i64 0) (exec_index _ _ _ rfl _ _ _ rfl rfl (idx5_0)) ?_; simp only [Act.put, List.setIfInBounds_toArray, List.set_cons_zero, List.set_cons_succ])
        go_big_quiet_step (fail)
        go_big_quiet_step (fail)
        refine wpQuiet_nil ?_
        rintro _ ⟨u9, rfl⟩
        go_wp2
        go_ret2
        exact ⟨by rw [HF.out, HK.out]; rfl, HE.out _⟩
      · have HK : Hid (kB s = 1) := by show _ = _; unfold kB; rw [hk5]; rfl
        obtain ⟨t, ht⟩ : ∃ t, pl s = t := ⟨_, rfl⟩
        have Hfx : Hid (fx D s = if t < 64 then D ^^^ 2 ^ t.toNat else D) := by show _ = _; unfold fx; rw [hk5, ht]; simp
        rw [hk5, ht]
        clear hk5 ht H5
        by_cases h64 : t < 64
        · obtain ⟨q, hq⟩ : ∃ q : Nat, t.toNat = q := ⟨_, rfl⟩
          have hq64 : q < 64 := by omega
          have hF : Hid (fx D s = D ^^^ 2 ^ q) := by show _ = _; rw [Hfx.out, if_pos h64, hq]
          have Hq : Hid ((q : Int) = t ∨ (q = 0 ∧ t ≤ 0)) := by
            show _ ∨ _
            omega
          clear hq Hfx
          go_wp2
          go_loop [15, 16] (fun pv iv => ∃ i p : Nat, i ≤ q ∧ p ≤ 9223372036854775808 ∧ Hid (p = 2 ^ i) ∧ pv = .int .u64 (p : Int) ∧ iv = .int .i64 (i : Int)) (fun _ iv => q - (intOf iv).toNat)
          case atStart => exact ⟨0, 1, by omega, by omega, rfl, rfl, rfl⟩
          case round =>
            obtain ⟨i, p, hi, hp, Hp, rfl, rfl⟩ := hrel
            by_cases hlt : (i : Int) < t
            · have hiq : i < q := by have := Hq.out; omega
              have hp2 : p ≤ 4611686018427387904 := by rw [Hp.out, show 4611686018427387904 = 2 ^ 62 from rfl]; exact Nat.pow_le_pow_right (by omega) (by omega)
              have Hn : Hid (p * 2 = 2 ^ (i + 1)) := by show _ = _; rw [Nat.pow_succ, Hp.out]
              clear Hp
              go_wp2
              go_round
              case rel => exact ⟨i + 1, p * 2, by omega, by omega, Hn, by first | rfl | go_num, by first | rfl | go_num⟩
              case measure => simp [intOf]; omega
            · have hiq : i = q := by have := Hq.out; omega
              have hx : bits .xor .u64 (D : Int) (p : Int) = ((D ^^^ p : Nat) : Int) := u64_xor_nat D p hdl (by omega)
              have HF : Hid (fx D s = D ^^^ p) := by show _ = _; rw [hF.out, Hp.out, hiq]
              clear Hp hF hiq Hq
              go_upto_region 15 with fail
              refine region_calm (by kernel_rfl) (by kernel_rfl) (fun W => Below W3.heap.size W3 W) (below_drew1 W3) ?_
              intro U hU fw hf hof
              have HE : Hid (∀ u, Below w.heap.size w (fw u)) := fun u => HB.out.trans ((hf u).mono HB.out.size)
              clear hf hof
              go_big_quiet_step (fail)
              go_big_quiet_step (fail)
              go_big_quiet_step (fail)
              (refine quiet_one (by rfl) (.int .i64 1) (exec_index _ _ _ rfl _ _ _ rfl rfl (idx5_1)) ?_; simp only [Act.put, List.setIfInBounds_toArray, List.set_cons_zero, List.set_cons_succ])
              go_big_quiet_step (fail)
              go_big_quiet_step (fail)
              refine wpQuiet_nil ?_
              rintro _ ⟨u9, rfl⟩
              go_wp2
              go_ret2
              exact ⟨by rw [HF.out, HK.out]; rfl, HE.out _⟩
        · have HF : Hid (fx D s = D) := by show _ = _; rw [Hfx.out, if_neg h64]
          clear Hfx
          go_upto_region 15 with fail
          refine region_calm (by kernel_rfl) (by kernel_rfl) (fun W => Below W3.heap.size W3 W) (below_drew1 W3) ?_
          intro U hU fw hf hof
          have HE : Hid (∀ u, Below w.heap.size w (fw u)) := fun u => HB.out.trans ((hf u).mono HB.out.size)
          clear hf hof
          go_big_quiet_step (fail)
          go_big_quiet_step (fail)
          go_big_quiet_step (fail)
          (refine quiet_one (by rfl) (.int .i64 1) (exec_index _ _ _ rfl _ _ _ rfl rfl (idx5_1)) ?_; simp only [Act.put, List.setIfInBounds_toArray, List.set_cons_zero, List.set_cons_succ])
          go_big_quiet_step (fail)
          go_big_quiet_step (fail)
          refine wpQuiet_nil ?_
          rintro _ ⟨u9, rfl⟩
          go_wp2
          go_ret2
          exact ⟨by rw [HF.out, HK.out]; rfl, HE.out _⟩
      · skip
        have HF : Hid (fx D s = D) := by show _ = _; unfold fx; rw [if_neg (by rw [hk5]; omega)]
        have HK : Hid (kB s = 2) := by show _ = _; unfold kB; rw [hk5]; rfl
        rw [hk5]
        clear hk5
        go_upto_region 15 with fail
        refine region_calm (by kernel_rfl) (by kernel_rfl) (fun W => Below W3.heap.size W3 W) (below_drew1 W3) ?_
        intro U hU fw hf hof
        have HE : Hid (∀ u, Below w.heap.size w (fw u)) := fun u => HB.out.trans ((hf u).mono HB.out.size)
        clear hf hof
        go_big_quiet_step (fail)
        go_big_quiet_step (fail)
        go_big_quiet_step (fail)
        (refine quiet_one (by rfl) (.int .i64 2) (exec_index _ _ _ rfl _ _ _ rfl rfl (idx5_2)) ?_; simp only [Act.put, List.setIfInBounds_toArray, List.set_cons_zero, List.set_cons_succ])
        go_big_quiet_step (fail)
        go_big_quiet_step (fail)
        refine wpQuiet_nil ?_
        rintro _ ⟨u9, rfl⟩
        go_wp2
        go_ret2
        exact ⟨by rw [HF.out, HK.out]; rfl, HE.out _⟩
      · skip
        have HF : Hid (fx D s = D) := by show _ = _; unfold fx; rw [if_neg (by rw [hk5]; omega)]
        have HK : Hid (kB s = 3) := by show _ = _; unfold kB; rw [hk5]; rfl
        rw [hk5]
        clear hk5
        go_upto_region 15 with fail
        refine region_calm (by kernel_rfl) (by kernel_rfl) (fun W => Below W3.heap.size W3 W) (below_drew1 W3) ?_
        intro U hU fw hf hof
        have HE : Hid (∀ u, Below w.heap.size w (fw u)) := fun u => HB.out.trans ((hf u).mono HB.out.size)
        clear hf hof
        go_big_quiet_step (fail)
        go_big_quiet_step (fail)
        go_big_quiet_step (fail)
        (refine quiet_one (by rfl) (.int .i64 3) (exec_index _ _ _ rfl _ _ _ rfl rfl (idx5_3)) ?_; simp only [Act.put, List.setIfInBounds_toArray, List.set_cons_zero, List.set_cons_succ])
        go_big_quiet_step (fail)
        go_big_quiet_step (fail)
        refine wpQuiet_nil ?_
        rintro _ ⟨u9, rfl⟩
        go_wp2
        go_ret2
        exact ⟨by rw [HF.out, HK.out]; rfl, HE.out _⟩
      · skip
        have HF : Hid (fx D s = D) := by show _ = _; unfold fx; rw [if_neg (by rw [hk5]; omega)]
        have HK : Hid (kB s = 3) := by show _ = _; unfold kB; rw [hk5]; rfl
        rw [hk5]
        clear hk5
        go_upto_region 15 with fail
        refine region_calm (by kernel_rfl) (by kernel_rfl) (fun W => Below W3.heap.size W3 W) (below_drew1 W3) ?_
        intro U hU fw hf hof
        have HE : Hid (∀ u, Below w.heap.size w (fw u)) := fun u => HB.out.trans ((hf u).mono HB.out.size)
        clear hf hof
        go_big_quiet_step (fail)
        go_big_quiet_step (fail)
        go_big_quiet_step (fail)
        (refine quiet_one (by rfl) (.int .i64 3) (exec_index _ _ _ rfl _ _ _ rfl rfl (idx5_4)) ?_; simp only [Act.put, List.setIfInBounds_toArray, List.set_cons_zero, List.set_cons_succ])
        go_big_quiet_step (fail)
        go_big_quiet_step (fail)
        refine wpQuiet_nil ?_
        rintro _ ⟨u9, rfl⟩
        go_wp2
        go_ret2
        exact ⟨by rw [HF.out, HK.out]; rfl, HE.out _⟩
end Go.Proofs.YtoimbjbdkkohcaaGreatDoor
