/-
  The document's Encoded: raw bytes that are a line's are told so.
-/
import Derived.Test.YtoimbjbdkkohcaaGreatDoorCoR5m
namespace Go.Proofs.YtoimbjbdkkohcaaGreatDoor
open Go.RowKit Go.Shelf
open Po (El mu toE)
open Rm (IsCode sy)
open Ln (wrd)
open Hm (syn)
attribute [local go_sem] Oper.semAt_some

/-- while the document looks: raw bytes in B, the line in B + 1, the columns in C -/
structure EoI (B C : Nat) (R F : Nat → Int) (w W : World) : Prop where
  r : Bk .u8 W B 72 R
  f : Bk .u8 W (B + 1) 64 F
  c : At9 W C colsL
  lt : B + 1 < C
  below : Below B w W
section
variable {B C M : Nat} {R F Z Z' : Nat → Int} {w W W' : World}
theorem EoI.next (H : EoI B C R F w W) (e : Below W.heap.size W W') : EoI B C R F w W' := ⟨H.r.next e, H.f.next e, H.c.next e, H.lt, H.below.trans (e.mono (by have := H.r.lt; omega))⟩
theorem EoI.drew (H : EoI B C R F w W) : EoI B C R F w W.drew := H.next (below_drew1 W)
theorem EoI.drewN (H : EoI B C R F w W) (k : Nat) : EoI B C R F w (W.drewN k) := H.next (below_stay (Below.refl _ W) (Stay.drewN _ W k) (Nat.le_refl _))
theorem EoI.alloc (H : EoI B C R F w W) (o : Obj) : EoI B C R F w (W.alloc o) := ⟨H.r.alloc _, H.f.alloc _, H.c.alloc _, H.lt, H.below.alloc (by have := H.r.lt; omega) _⟩
theorem EoI.other (H : EoI B C R F w W) {N : Nat} (hN : B + 1 < N) (hC : C ≠ N) (i : Nat) (v : Value) : EoI B C R F w (W.setCell ⟨N, i, none⟩ v) :=
  ⟨H.r.other (by omega) i _, H.f.other (by omega) i _, H.c.of (Below.heap_setCell W ⟨N, i, none⟩ _ C (by simp; omega)), H.lt, H.below.setCell (p := ⟨N, i, none⟩) (by simp; omega) _⟩
/-- a word's stored symbols lie in M -/
structure EoW (B C M : Nat) (R F Z : Nat → Int) (w W : World) : Prop where
  i : EoI B C R F w W
  z : Bk .u8 W M 36 Z
  lt : B + 1 < M
  cm : C ≠ M
theorem EoW.set (H : EoW B C M R F Z w W) (i : Nat) (e : Int) : EoW B C M R F (fun j => if j = i then e else Z j) w (W.setCell ⟨M, i, none⟩ (.int .u8 e)) := ⟨H.i.other H.lt H.cm i _, H.z.set i e, H.lt, H.cm⟩
theorem EoW.congr (H : EoW B C M R F Z w W) (h : ∀ i, i < 36 → Z i = Z' i) : EoW B C M R F Z' w W := ⟨H.i, H.z.congr h, H.lt, H.cm⟩
theorem EoW.drew (H : EoW B C M R F Z w W) : EoW B C M R F Z w W.drew := ⟨H.i.drew, H.z.drew, H.lt, H.cm⟩
theorem EoW.drewN (H : EoW B C M R F Z w W) (k : Nat) : EoW B C M R F Z w (W.drewN k) := ⟨H.i.drewN k, H.z.drewN k, H.lt, H.cm⟩
theorem EoW.next (H : EoW B C M R F Z w W) (e : Below W.heap.size W W') : EoW B C M R F Z w W' := ⟨H.i.next e, H.z.next e, H.lt, H.cm⟩
end
theorem zeroA36 (w : World) : (zeroValue 49).run Tryz.prog w = .ok (.agg (ints .u8 36 fun _ => 0).toArray) w := by kernel_rfl
theorem gd4 : Tryz.prog.eqGuardType Tryz.prog.depth 50 = false := by kernel_rfl
theorem ne4 (w : World) : (binOp .neq 50 (.agg #[.int .u8 0, .int .u8 0, .int .u8 0, .int .u8 0]) (.agg #[.int .u8 0, .int .u8 0, .int .u8 0, .int .u8 0])).run Tryz.prog w = .ok (.bool false) w :=
  neq_arr 50 4 Tryz.underlying50 (fun _ => 0) (fun _ => 0) true ⟨fun _ _ _ => rfl, fun _ => rfl⟩ w
set_option maxRecDepth 100000 in
set_option maxHeartbeats 2000000 in
theorem refEncoded10_1 (R : Nat → Int) (hR : Byts 72 R) (F : Nat → Int) (hF : Byts 64 F) (ix : Int) (p : Bool) (hEnc : Co.Enc1 F (par ix) (bt p) R) (w : World) :
    Calls Tryz.prog 9 #[.int .i64 1, .agg (ints .u8 72 R).toArray, .agg (ints .u8 64 F).toArray, .int .i64 ix, .bool p] w fun e w' => e = .returned (.bool true) ∧ Below w.heap.size w w' := by
  have hzc := zero_cols
  have i74 := info_cols
  have o74 := colsL_one
  have ht74 := there_cols10
  obtain ⟨nx, hnx⟩ : ∃ n : Nat, ix % 8388608 = (n : Int) := ⟨(ix % 8388608).toNat, by omega⟩
  have hnl : nx < 8388608 := by omega
  have hw1 : (IntKind.u64.wrap ix).tmod 8388608 = (nx : Int) := by
    have : IntKind.u64.wrap ix = ix % 18446744073709551616 := rfl
    rw [this, Int.tmod_eq_emod_of_nonneg (by omega)]; omega
  obtain ⟨wx, pa, hwx, hpa, cW⟩ : ∃ wx pa : Nat, wx ≤ 64 ∧ (par ix = (pa : Int) ∧ pa = wx % 2) ∧ ∀ w : World, Calls Tryz.prog 19 #[.int .u64 (nx : Int)] w fun e w' => e = .returned (.int .i64 (wx : Int)) ∧ w' = w :=
    ⟨Bm.wt nx, Bm.wt nx % 2, Bm.wt_le nx, ⟨by unfold par; rw [hnx]; rfl, rfl⟩, fun w => refWeight_any nx (by omega) w⟩
  have CW : Hid (∀ w : World, Calls Tryz.prog 19 #[.int .u64 (nx : Int)] w fun e w' => e = .returned (.int .i64 (wx : Int)) ∧ w' = w) := cW
  have hpar := hpa.1
  have hmod : (wx : Int).tmod 2 = (pa : Int) := by rw [Int.tmod_eq_emod_of_nonneg (by omega), hpa.2]; omega
  obtain ⟨bp, hbp⟩ : ∃ bp, bt p = bp := ⟨_, rfl⟩
  have HBP : Hid ((p = false → bp = 0) ∧ (p = true → bp = 1)) := ⟨fun h => by rw [← hbp, h]; rfl, fun h => by rw [← hbp, h]; rfl⟩
  have hsyn : ∀ n, n < 8 → syn (wrd F n) (R (9 * n + 8)).toNat (pa : Int) bp = 0 ∧ R (9 * n + 8) = ((R (9 * n + 8)).toNat : Int) := fun n hn => by
    have h := hEnc.c n hn
    rw [hpar, hbp] at h
    rw [h]
    exact ⟨Hm.syn_code _ _ _, by simp⟩
  have hw64 : ∀ n, n < 8 → wrd F n < 18446744073709551616 := fun n hn => by
    have := Ln.val_lt (fun i => (F i).toNat) 8 (8 * n) fun j h1 h2 => by
      have := hF j (by omega)
      show (F j).toNat < 256
      omega
    exact this
  have cS : ∀ (n : Nat) (W : World), n < 8 → Calls Tryz.prog 20 #[.agg colsL.toArray, .int .u64 (wrd F n : Int), .int .u8 (R (9 * n + 8)), .int .i64 (pa : Int), .int .i64 bp] W fun e w' => e = .returned (.int .u8 0) ∧ Below W.heap.size W w' := fun n W hn => by
    have h := refSyndrome_any (wrd F n) (R (9 * n + 8)).toNat (pa : Int) bp (hw64 n hn) (by have := hR (9 * n + 8) (by omega); omega) W
    rw [(hsyn n hn).1, ← (hsyn n hn).2] at h
    exact h
  have cD : ∀ (n : Nat) (W : World), n < 8 → Calls Tryz.prog 21 #[.agg (ints .u8 64 F).toArray, .int .i64 (n : Int)] W fun e w' => e = .returned (.int .u64 (wrd F n : Int)) ∧ Below W.heap.size W w' := fun n W hn => refWord6_any F hF n hn W
  have HE : Hid (∀ n, n < 8 → ∀ j, j < 8 → R (9 * n + j) = F (8 * n + j)) := fun n hn j hj => hEnc.d n hn j hj
  obtain ⟨wf, hwf⟩ : ∃ wf : Nat → Nat, (fun n => wrd F n) = wf := ⟨_, rfl⟩
  have hwn : ∀ n, wrd F n = wf n := fun n => by rw [← hwf]
  simp only [hwn] at cS cD
  obtain ⟨A, hA⟩ : ∃ A, (ints .u8 64 F) = A := ⟨_, rfl⟩
  have iA : (Tryz.prog.info? 22).map (·.size) = some A.length := by rw [← hA, ints_len]; exact infoA10
  obtain ⟨AR, hAR⟩ : ∃ A, (ints .u8 72 R) = A := ⟨_, rfl⟩
  have cD' := cD
  simp only [hA] at cD'
  have CS : Hid (∀ (n : Nat) (W : World), n < 8 → Calls Tryz.prog 20 #[.agg colsL.toArray, .int .u64 (wf n : Int), .int .u8 (R (9 * n + 8)), .int .i64 (pa : Int), .int .i64 bp] W fun e w' => e = .returned (.int .u8 0) ∧ Below W.heap.size W w') := cS
  have CD : Hid (∀ (n : Nat) (W : World), n < 8 → Calls Tryz.prog 21 #[.agg A.toArray, .int .i64 (n : Int)] W fun e w' => e = .returned (.int .u64 (wf n : Int)) ∧ Below W.heap.size W w') := cD'
  clear cS cD cD' hw64 hwf hwn hsyn
  rw [hA, hAR]
  have HI : Hid (∀ V, V = (w.alloc (.cells AR.toArray 26)).alloc (.cells A.toArray 22) → Bk .u8 V w.heap.size 72 R ∧ Bk .u8 V (w.heap.size + 1) 64 F ∧ Below w.heap.size w V) := fun V hV => by
    subst hV
    rw [← hA, ← hAR]
    have h1 := Bk.new .u8 w 72 R 26
    have h2 := Bk.new .u8 (w.alloc (.cells (ints .u8 72 R).toArray 26)) 64 F 22
    simp only [World.size_alloc] at h2
    exact ⟨h1.alloc _, h2, ((Below.refl _ w).alloc (Nat.le_refl _) _).alloc (by simp) _⟩
  have HA : Hid ((ints .u8 64 F) = A ∧ (ints .u8 72 R) = AR) := ⟨hA, hAR⟩
  clear hA hAR hF hR hEnc hnx hpar hpa cW hbp
  go_enter Tryz.func9, Tryz.ntmps9
  go_upto_region 2 with (fail)
  obtain ⟨V, hV⟩ : ∃ V, (w.alloc (.cells AR.toArray 26)).alloc (.cells A.toArray 22) = V := ⟨_, rfl⟩
  have H0 : Hid (Bk .u8 V w.heap.size 72 R ∧ Bk .u8 V (w.heap.size + 1) 64 F ∧ Below w.heap.size w V) := HI.out V hV.symm
  rw [hV]
  clear hV HI
  obtain ⟨B, hB⟩ : ∃ B, w.heap.size = B := ⟨_, rfl⟩
  rw [hB] at H0 ⊢
  go_cut [19] (fun a wx => a = .bool p ∧ wx = V)
  case first =>
    go_wp2
    go_meet
    case rel => exact ⟨rfl, rfl⟩
  case rest =>
    obtain ⟨rfl, rfl⟩ := hcut
    go_step
    go_cut [11] (fun a wx => a = .int .i64 bp ∧ wx = wc)
    case first =>
      rcases Bool.eq_false_or_eq_true p with hp | hp
      · have hb := HBP.out.2 hp
        subst hp
        subst hb
        go_wp2
        all_goals
          go_meet
          case rel => exact ⟨rfl, rfl⟩
      · have hb := HBP.out.1 hp
        subst hp
        subst hb
        go_wp2
        all_goals
          go_meet
          case rel => exact ⟨rfl, rfl⟩
    obtain ⟨rfl, rfl⟩ := hcut
    go_wp2_with fail
    refine (refColumns_any _).mono ?_
    rintro e V1 ⟨rfl, b1⟩
    have ht1 := ht74 V1
    obtain ⟨C, hC⟩ : ∃ C, V1.heap.size = C := ⟨_, rfl⟩
    have H1 : Hid (EoI B C R F w ((V1.alloc (.cells (stageC 0) 43)).setCells C 0 colsL)) := by
      obtain ⟨h1, h2, h4⟩ := H0.out
      have g1 := h1.next b1
      have g2 := h2.next b1
      have g4 := cols_laid V1
      rw [hC] at g4
      have l3 := g2.lt
      have l0 := h2.lt
      refine ⟨(g1.alloc _).putOther (by omega) 0 _, (g2.alloc _).putOther (by omega) 0 _, g4, by omega, belows_put (by omega) colsL 0 ((h4.trans (b1.mono (by omega))).alloc (by omega) _)⟩
    rw [hC] at ht1
    try rw [hC]
    clear H0 b1 ht74
    obtain ⟨S0, hS0⟩ : ∃ S0, stageC 0 = S0 := ⟨_, rfl⟩
    rw [hS0] at hzc ht1 H1
    clear hS0
    go_upto_region 5 with (refine wpList_store_mid rfl 43 _ _ rfl _ 0 colsL.toArray rfl rfl ht1 (by simpa using i74) o74 ?_)
    obtain ⟨V2, hV2⟩ : ∃ V2, (V1.alloc (.cells S0 43)).setCells C 0 colsL = V2 := ⟨_, rfl⟩
    rw [hV2] at H1
    try rw [hV2]
    clear hV2 ht1 hC V1
    go_wp2_with fail
    refine (CW.out _).mono ?_
    rintro e w' ⟨rfl, hw2⟩
    rw [hw2]
    clear hw2 w' CW hw1
    go_wp2
    go_loopw [14] (fun i wr => ∃ n : Nat, n ≤ 8 ∧ i = .int .i64 (n : Int) ∧ Hid (EoI B C R F w wr)) (fun i _ => 8 - (intOf i).toNat)
    case atStart => exact ⟨0, by omega, rfl, H1⟩
    case round =>
      obtain ⟨n, hn, rfl, HK⟩ := hrel
      by_cases hlt : n < 8
      · have HEN : Hid (∀ j, j < 8 → R (9 * n + j) = F (8 * n + j)) := HE.out n hlt
        have hd8 : decide ((n : Int) < 8) = true := decide_eq_true (by omega)
        go_wp2
        go_loopw [15] (fun i wr => ∃ j : Nat, j ≤ 8 ∧ i = .int .i64 (j : Int) ∧ Hid (EoI B C R F w wr)) (fun i _ => 8 - (intOf i).toNat)
        case atStart => exact ⟨0, by omega, rfl, HK⟩
        case round =>
          obtain ⟨j, hj, rfl, HJ⟩ := hrel
          by_cases hjt : j < 8
          · obtain ⟨x, Hx⟩ : ∃ x, Hid (F (8 * n + j) = x) := ⟨_, rfl⟩
            have c0 := HJ.out.f.cell (8 * n + j) (by omega)
            rw [Hx.out] at c0
            have c1 := HJ.out.r.cell (9 * n + j) (by omega)
            rw [HEN.out j hjt, Hx.out] at c1
            have HN : Hid (∀ k, EoI B C R F w (wr.drewN k)) := fun k => HJ.out.drewN k
            clear Hx HK H1
            go_upto_region 12 with (fail)
            go_quiet (fail)
            --TRACE1
            go_wp2
            go_roundw
            case rel => exact ⟨j + 1, by omega, by go_num, HN.out _⟩
            case measure => simp [intOf]; omega
          · obtain rfl : j = 8 := by omega
            have cD1 : Hid (∀ W : World, Calls Tryz.prog 21 #[.agg A.toArray, .int .i64 (n : Int)] W fun e w' => e = .returned (.int .u64 (wf n : Int)) ∧ Below W.heap.size W w') := fun W => CD.out n W hlt
            have cS1 : Hid (∀ W : World, Calls Tryz.prog 20 #[.agg colsL.toArray, .int .u64 (wf n : Int), .int .u8 (R (9 * n + 8)), .int .i64 (pa : Int), .int .i64 bp] W fun e w' => e = .returned (.int .u8 0) ∧ Below W.heap.size W w') := fun W => CS.out n W hlt
            obtain ⟨d, hd⟩ : ∃ d : Nat, wf n = d := ⟨_, rfl⟩
            rw [hd] at cD1 cS1
            have hy := HJ.out.r.cell (9 * n + 8) (by omega)
            obtain ⟨y, Hy⟩ : ∃ y, Hid (R (9 * n + 8) = y) := ⟨_, rfl⟩
            rw [Hy.out] at cS1
            clear hd HK H1 HEN hy
            go_upto_region 14 with (fail)
            refine region_calm (by kernel_rfl) (by kernel_rfl) (fun W => Below wr.heap.size wr W) (below_drew1 wr) ?_
            intro U hU fw hf hof
            have HU : Hid (∀ x W, Below (fw x).heap.size (fw x) W → ∃ y, W = fw y) := fun x W h => hof W ((hf x).trans (h.mono (hf x).size))
            have HQ : Hid (∀ u, EoI B C R F w (fw u)) := fun u => HJ.out.next (hf u)
            have c8 : ∀ u, (fw u).cell? ⟨B, 9 * n + 8, none⟩ = some (.int .u8 y) := fun u => by rw [← Hy.out]; exact (HQ.out u).r.cell (9 * n + 8) (by omega)
            clear hf hof HJ Hy
            (refine quiet_load (by rfl) 43 _ rfl C 0 rfl colsL _ (by rintro _ ⟨u, rfl⟩; exact (HQ.out u).c.r) Tryz.underlying43 rfl info_cols ?_; simp only [Act.put, List.setIfInBounds_toArray, List.set_cons_zero, List.set_cons_succ])
            (refine quiet_load (by rfl) 22 _ rfl (B + 1) 0 rfl A _ (by rintro _ ⟨u, rfl⟩; rw [← HA.out.1]; exact (HQ.out u).f.range) Tryz.underlying22 rfl iA ?_; simp only [Act.put, List.setIfInBounds_toArray, List.set_cons_zero, List.set_cons_succ])
            go_big_quiet_step (fail)
            go_big_quiet_step ((go_at_call 21; exact calm_next HU.out (cD1.out _)))
            go_big_quiet_step (fail)
            go_big_quiet_step (fail)
            go_big_quiet_step (fail)
            go_big_quiet_step (fail)
            go_big_quiet_step (fail)
            go_big_quiet_step (fail)
            go_big_quiet_step (fail)
            go_big_quiet_step ((go_at_call 20; exact calm_next HU.out (cS1.out _)))
            go_big_quiet_step (fail)
            refine wpQuiet_nil ?_
            rintro _ ⟨u9, rfl⟩
            have HN : Hid (EoI B C R F w (fw u9)) := HQ.out u9
            obtain ⟨W9, hW9⟩ : ∃ W, fw u9 = W := ⟨_, rfl⟩
            rw [hW9] at HN ⊢
            clear hW9 HU HQ c8 hU cD1 cS1
            go_wp2
            go_roundw
            case rel => exact ⟨n + 1, by omega, by go_num, HN⟩
            case measure => simp [intOf]; omega
      · obtain rfl : n = 8 := by omega
        have HB : Hid (Below B w wr) := HK.out.below
        clear HK H1 HE CS CD
        go_wp2
        refine wp_loop_rounds 1 ?_
        rw [rounds_succ]
        go_wp2
        go_ret
        exact ⟨rfl, by first | exact HB.out | (rw [hB]; exact HB.out)⟩
set_option maxRecDepth 100000 in
set_option maxHeartbeats 2000000 in
theorem refEncoded10_2 (R : Nat → Int) (hR : Byts 72 R) (F : Nat → Int) (_hF : Byts 64 F) (ix : Int) (p : Bool) (hEnc : Co.Enc2 F (vir ix p) R) (w : World) :
    Calls Tryz.prog 9 #[.int .i64 2, .agg (ints .u8 72 R).toArray, .agg (ints .u8 64 F).toArray, .int .i64 ix, .bool p] w fun e w' => e = .returned (.bool true) ∧ Below w.heap.size w w' := by
  have hzc := zero_cols
  have i74 := info_cols
  have o74 := colsL_one
  have ht74 := there_cols10
  obtain ⟨nx, hnx⟩ : ∃ n : Nat, ix % 8388608 = (n : Int) := ⟨(ix % 8388608).toNat, by omega⟩
  have hnl : nx < 8388608 := by omega
  have hw1 : (IntKind.u64.wrap ix).tmod 8388608 = (nx : Int) := by
    have : IntKind.u64.wrap ix = ix % 18446744073709551616 := rfl
    rw [this, Int.tmod_eq_emod_of_nonneg (by omega)]; omega
  obtain ⟨wx, pa, hwx, hpa, cW⟩ : ∃ wx pa : Nat, wx ≤ 64 ∧ (par ix = (pa : Int) ∧ pa = wx % 2) ∧ ∀ w : World, Calls Tryz.prog 19 #[.int .u64 (nx : Int)] w fun e w' => e = .returned (.int .i64 (wx : Int)) ∧ w' = w :=
    ⟨Bm.wt nx, Bm.wt nx % 2, Bm.wt_le nx, ⟨by unfold par; rw [hnx]; rfl, rfl⟩, fun w => refWeight_any nx (by omega) w⟩
  have CW : Hid (∀ w : World, Calls Tryz.prog 19 #[.int .u64 (nx : Int)] w fun e w' => e = .returned (.int .i64 (wx : Int)) ∧ w' = w) := cW
  have hpar := hpa.1
  have hmod : (wx : Int).tmod 2 = (pa : Int) := by rw [Int.tmod_eq_emod_of_nonneg (by omega), hpa.2]; omega
  obtain ⟨bp, hbp⟩ : ∃ bp, bt p = bp := ⟨_, rfl⟩
  have HBP : Hid ((p = false → bp = 0) ∧ (p = true → bp = 1)) := ⟨fun h => by rw [← hbp, h]; rfl, fun h => by rw [← hbp, h]; rfl⟩
  have cV : Hid (∀ W : World, Calls Tryz.prog 24 #[.int .i64 ix, .bool p] W fun e w' => e = .returned (.agg (arr 3 (vir ix p)).toArray) ∧ Below W.heap.size W w') := fun W => by rw [vir_arr]; exact refVirtual_any ix p W
  have cW2 : ∀ (k : Nat) (W : World), k < 2 → Calls Tryz.prog 23 #[.agg (ints .u8 36 fun j => R (36 * k + j)).toArray, .agg (arr 3 (vir ix p)).toArray] W fun e w' => e = .returned (.agg (arr 39 (wd (Co.rw R k) (vir ix p))).toArray) ∧ Below W.heap.size W w' := fun k W hk => by
    rw [show (ints .u8 36 fun j => R (36 * k + j)) = arr 36 (Co.rw R k) from ints_arr10 36 _ fun j hj => hR _ (by omega)]
    exact refWord_any _ _ W
  have cS2 : ∀ (k : Nat) (W : World), k < 2 → Calls Tryz.prog 22 #[.agg (arr 39 (wd (Co.rw R k) (vir ix p))).toArray] W fun e w' => e = .returned (.agg #[.int .u8 0, .int .u8 0, .int .u8 0, .int .u8 0]) ∧ Below W.heap.size W w' := fun k W hk => by
    have h := refValues_any (wd (Co.rw R k) (vir ix p)) W
    have e : (arr 4 (sy (wd (Co.rw R k) (vir ix p)))).toArray = #[.int .u8 0, .int .u8 0, .int .u8 0, .int .u8 0] := by
      have hc := hEnc.c k hk
      show #[Value.int .u8 (oe (sy (wd (Co.rw R k) (vir ix p)) 0)), .int .u8 (oe (sy (wd (Co.rw R k) (vir ix p)) 1)), .int .u8 (oe (sy (wd (Co.rw R k) (vir ix p)) 2)), .int .u8 (oe (sy (wd (Co.rw R k) (vir ix p)) 3))] = _
      rw [show sy (wd (Co.rw R k) (vir ix p)) 0 = 0 from hc 0 (by omega), show sy (wd (Co.rw R k) (vir ix p)) 1 = 0 from hc 1 (by omega), show sy (wd (Co.rw R k) (vir ix p)) 2 = 0 from hc 2 (by omega), show sy (wd (Co.rw R k) (vir ix p)) 3 = 0 from hc 3 (by omega)]
      rfl
    rw [e] at h
    exact h
  have HE : Hid (∀ k, k < 2 → ∀ i, i < 32 → R (36 * k + (4 + i)) = F (32 * k + i)) := fun k hk i hi => hEnc.d k hk i hi
  obtain ⟨L3, hL3⟩ : ∃ L, arr 3 (vir ix p) = L := ⟨_, rfl⟩
  obtain ⟨WF, hWF⟩ : ∃ WF : Nat → List Value, (fun k => arr 39 (wd (Co.rw R k) (vir ix p))) = WF := ⟨_, rfl⟩
  have hWk : ∀ k, arr 39 (wd (Co.rw R k) (vir ix p)) = WF k := fun k => by rw [← hWF]
  simp only [hWk, hL3] at cW2 cS2
  rw [hL3] at cV
  have CW2 : Hid (∀ (k : Nat) (W : World), k < 2 → Calls Tryz.prog 23 #[.agg (ints .u8 36 fun j => R (36 * k + j)).toArray, .agg L3.toArray] W fun e w' => e = .returned (.agg (WF k).toArray) ∧ Below W.heap.size W w') := cW2
  have CS2 : Hid (∀ (k : Nat) (W : World), k < 2 → Calls Tryz.prog 22 #[.agg (WF k).toArray] W fun e w' => e = .returned (.agg #[.int .u8 0, .int .u8 0, .int .u8 0, .int .u8 0]) ∧ Below W.heap.size W w') := cS2
  have hz4 := zero4r
  have hzz := zeroA36
  obtain ⟨Z36, hZ36⟩ : ∃ A, (ints .u8 36 fun _ => 0).toArray = A := ⟨_, rfl⟩
  rw [hZ36] at hzz
  have HZ36 : Hid ((ints .u8 36 fun _ => 0).toArray = Z36) := hZ36
  clear cW2 cS2 hL3 hWF hWk hZ36
  obtain ⟨A, hA⟩ : ∃ A, (ints .u8 64 F) = A := ⟨_, rfl⟩
  have iA : (Tryz.prog.info? 22).map (·.size) = some A.length := by rw [← hA, ints_len]; exact infoA10
  obtain ⟨AR, hAR⟩ : ∃ A, (ints .u8 72 R) = A := ⟨_, rfl⟩
  rw [hA, hAR]
  have HI : Hid (∀ V, V = (w.alloc (.cells AR.toArray 26)).alloc (.cells A.toArray 22) → Bk .u8 V w.heap.size 72 R ∧ Bk .u8 V (w.heap.size + 1) 64 F ∧ Below w.heap.size w V) := fun V hV => by
    subst hV
    rw [← hA, ← hAR]
    have h1 := Bk.new .u8 w 72 R 26
    have h2 := Bk.new .u8 (w.alloc (.cells (ints .u8 72 R).toArray 26)) 64 F 22
    simp only [World.size_alloc] at h2
    exact ⟨h1.alloc _, h2, ((Below.refl _ w).alloc (Nat.le_refl _) _).alloc (by simp) _⟩
  have HA : Hid ((ints .u8 64 F) = A ∧ (ints .u8 72 R) = AR) := ⟨hA, hAR⟩
  clear hA hAR _hF hR hEnc hnx hpar hpa cW hbp
  go_enter Tryz.func9, Tryz.ntmps9
  go_upto_region 2 with (fail)
  obtain ⟨V, hV⟩ : ∃ V, (w.alloc (.cells AR.toArray 26)).alloc (.cells A.toArray 22) = V := ⟨_, rfl⟩
  have H0 : Hid (Bk .u8 V w.heap.size 72 R ∧ Bk .u8 V (w.heap.size + 1) 64 F ∧ Below w.heap.size w V) := HI.out V hV.symm
  rw [hV]
  clear hV HI
  obtain ⟨B, hB⟩ : ∃ B, w.heap.size = B := ⟨_, rfl⟩
  rw [hB] at H0 ⊢
  go_cut [19] (fun a wx => a = .bool p ∧ wx = V)
  case first =>
    go_wp2
    go_meet
    case rel => exact ⟨rfl, rfl⟩
  case rest =>
    obtain ⟨rfl, rfl⟩ := hcut
    go_step
    go_cut [11] (fun a wx => a = .int .i64 bp ∧ wx = wc)
    case first =>
      rcases Bool.eq_false_or_eq_true p with hp | hp
      · have hb := HBP.out.2 hp
        subst hp
        subst hb
        go_wp2
        all_goals
          go_meet
          case rel => exact ⟨rfl, rfl⟩
      · have hb := HBP.out.1 hp
        subst hp
        subst hb
        go_wp2
        all_goals
          go_meet
          case rel => exact ⟨rfl, rfl⟩
    obtain ⟨rfl, rfl⟩ := hcut
    go_wp2_with fail
    refine (refColumns_any _).mono ?_
    rintro e V1 ⟨rfl, b1⟩
    have ht1 := ht74 V1
    obtain ⟨C, hC⟩ : ∃ C, V1.heap.size = C := ⟨_, rfl⟩
    have H1 : Hid (EoI B C R F w ((V1.alloc (.cells (stageC 0) 43)).setCells C 0 colsL)) := by
      obtain ⟨h1, h2, h4⟩ := H0.out
      have g1 := h1.next b1
      have g2 := h2.next b1
      have g4 := cols_laid V1
      rw [hC] at g4
      have l3 := g2.lt
      have l0 := h2.lt
      refine ⟨(g1.alloc _).putOther (by omega) 0 _, (g2.alloc _).putOther (by omega) 0 _, g4, by omega, belows_put (by omega) colsL 0 ((h4.trans (b1.mono (by omega))).alloc (by omega) _)⟩
    rw [hC] at ht1
    try rw [hC]
    clear H0 b1 ht74
    obtain ⟨S0, hS0⟩ : ∃ S0, stageC 0 = S0 := ⟨_, rfl⟩
    rw [hS0] at hzc ht1 H1
    clear hS0
    go_upto_region 5 with (refine wpList_store_mid rfl 43 _ _ rfl _ 0 colsL.toArray rfl rfl ht1 (by simpa using i74) o74 ?_)
    obtain ⟨V2, hV2⟩ : ∃ V2, (V1.alloc (.cells S0 43)).setCells C 0 colsL = V2 := ⟨_, rfl⟩
    rw [hV2] at H1
    try rw [hV2]
    clear hV2 ht1 hC V1
    go_wp2_with fail
    refine (CW.out _).mono ?_
    rintro e w' ⟨rfl, hw2⟩
    rw [hw2]
    clear hw2 w' CW hw1
    go_wp2
    refine wp_loop_rounds 1 ?_
    rw [rounds_succ]
    go_wp2
    go_loopw [16] (fun i wr => ∃ n : Nat, n ≤ 2 ∧ i = .int .i64 (n : Int) ∧ Hid (EoI B C R F w wr)) (fun i _ => 2 - (intOf i).toNat)
    case atStart => exact ⟨0, by omega, rfl, H1⟩
    case round =>
      obtain ⟨n, hn, rfl, HK⟩ := hrel
      by_cases hlt : n < 2
      · have hd8 : decide ((n : Int) < 2) = true := decide_eq_true (by omega)
        have HEN : Hid (∀ i, i < 32 → R (36 * n + (4 + i)) = F (32 * n + i)) := HE.out n hlt
        go_upto_region 20 with (fail)
        obtain ⟨M, hM⟩ : ∃ M, wr.heap.size = M := ⟨_, rfl⟩
        obtain ⟨W4, hW4⟩ : ∃ W, wr.alloc (.cells Z36 49) = W := ⟨_, rfl⟩
        have HM : Hid (EoW B C M R F (fun _ => 0) w W4) := by
          have hx := Bk.new .u8 wr 36 (fun _ => 0) 49
          rw [HZ36.out, hM, hW4] at hx
          have hk := HK.out.alloc (.cells Z36 49)
          rw [hW4] at hk
          have l1 := HK.out.f.lt
          have l2 := HK.out.c.s
          exact ⟨hk, hx, by omega, by omega⟩
        rw [hM, hW4]
        clear hM hW4 HK H1
        go_wp2
        go_loopw [18] (fun i wr => ∃ j : Nat, j ≤ 36 ∧ i = .int .i64 (j : Int) ∧ Hid (EoW B C M R F (fun i => if i < j then R (36 * n + i) else 0) w wr)) (fun i _ => 36 - (intOf i).toNat)
        case atStart => exact ⟨0, by omega, rfl, HM.out.congr fun i _ => by rw [if_neg (by omega)]⟩
        case round =>
          obtain ⟨j, hj, rfl, HJ⟩ := hrel
          by_cases hjt : j < 36
          · obtain ⟨x, Hx⟩ : ∃ x, Hid (R (36 * n + j) = x) := ⟨_, rfl⟩
            have c0 := HJ.out.i.r.cell (36 * n + j) (by omega)
            rw [Hx.out] at c0
            have c1 := HJ.out.z.cell j hjt
            have f1 := HJ.out.z.free j
            have HN : Hid (EoW B C M R F (fun i => if i < j + 1 then R (36 * n + i) else 0) w (wr.setCell ⟨M, j, none⟩ (.int .u8 x))) := (HJ.out.set j x).congr fun i _ => by
              show (if i = j then x else if i < j then R (36 * n + i) else 0) = if i < j + 1 then R (36 * n + i) else 0
              by_cases h : i = j
              · rw [if_pos h, if_pos (by omega), h, Hx.out]
              · rw [if_neg h]
                by_cases h2 : i < j
                · rw [if_pos h2, if_pos (by omega)]
                · rw [if_neg h2, if_neg (by omega)]
            clear HJ HM
            go_upto_region 24 with (fail)
            obtain ⟨W5, hW5⟩ : ∃ W, wr.setCell ⟨M, j, none⟩ (.int .u8 x) = W := ⟨_, rfl⟩
            rw [hW5] at HN
            rw [hW5]
            clear hW5 c0 c1 f1
            have HD : Hid (∀ k, EoW B C M R F (fun i => if i < j + 1 then R (36 * n + i) else 0) w (W5.drewN k)) := fun k => HN.out.drewN k
            by_cases h4 : 4 ≤ j
            · have hd4 : decide ((4 : Int) ≤ (j : Int)) = true := decide_eq_true (by omega)
              have c0 := HN.out.z.cell j (by omega)
              rw [if_pos (by omega), Hx.out] at c0
              have c1 := HN.out.i.f.cell (32 * n + j - 4) (by omega)
              rw [show 32 * n + j - 4 = 32 * n + (j - 4) by omega, ← HEN.out (j - 4) (by omega), show 4 + (j - 4) = j by omega, Hx.out, show 32 * n + (j - 4) = 32 * n + j - 4 by omega] at c1
              clear Hx HN
              --T24
              go_quiet (fail)
              go_wp2
              go_roundw
              case rel => exact ⟨j + 1, by omega, by go_num, HD.out _⟩
              case measure => simp [intOf]; omega
            · have hd4 : decide ((4 : Int) ≤ (j : Int)) = false := decide_eq_false (by omega)
              clear Hx HN
              go_quiet (fail)
              go_wp2
              go_roundw
              case rel => exact ⟨j + 1, by omega, by go_num, HD.out _⟩
              case measure => simp [intOf]; omega
          · obtain rfl : j = 36 := by omega
            have HM2 : Hid (EoW B C M R F (fun j => R (36 * n + j)) w wr) := HJ.out.congr fun i hi => by rw [if_pos hi]
            have cW3 : Hid (∀ W : World, Calls Tryz.prog 23 #[.agg (ints .u8 36 fun j => R (36 * n + j)).toArray, .agg L3.toArray] W fun e w' => e = .returned (.agg (WF n).toArray) ∧ Below W.heap.size W w') := fun W => CW2.out n W hlt
            have cS3 : Hid (∀ W : World, Calls Tryz.prog 22 #[.agg (WF n).toArray] W fun e w' => e = .returned (.agg #[.int .u8 0, .int .u8 0, .int .u8 0, .int .u8 0]) ∧ Below W.heap.size W w') := fun W => CS2.out n W hlt
            obtain ⟨L9, hL9⟩ : ∃ L, WF n = L := ⟨_, rfl⟩
            obtain ⟨L6, hL6⟩ : ∃ L, (ints .u8 36 fun j => R (36 * n + j)) = L := ⟨_, rfl⟩
            have i6 : (Tryz.prog.info? 49).map (·.size) = some L6.length := by rw [← hL6, ints_len]; exact info36
            rw [hL9, hL6] at cW3
            rw [hL9] at cS3
            have HL6 : Hid ((ints .u8 36 fun j => R (36 * n + j)) = L6) := hL6
            clear hL9 hL6 HJ HM
            go_upto_region 26 with (fail)
            refine region_calm (by kernel_rfl) (by kernel_rfl) (fun W => Below wr.heap.size wr W) (below_drew1 wr) ?_
            intro U hU fw hf hof
            have HU : Hid (∀ x W, Below (fw x).heap.size (fw x) W → ∃ y, W = fw y) := fun x W h => hof W ((hf x).trans (h.mono (hf x).size))
            have HQ : Hid (∀ u, EoW B C M R F (fun j => R (36 * n + j)) w (fw u)) := fun u => HM2.out.next (hf u)
            clear hf hof HM2
            (refine quiet_load (by rfl) 49 _ rfl M 0 rfl L6 _ (by rintro _ ⟨u, rfl⟩; rw [← HL6.out]; exact (HQ.out u).z.range) Tryz.underlying49 rfl i6 ?_; simp only [Act.put, List.setIfInBounds_toArray, List.set_cons_zero, List.set_cons_succ])
            go_big_quiet_step (fail)
            go_big_quiet_step (fail)
            go_big_quiet_step ((go_at_call 24; exact calm_next HU.out (cV.out _)))
            go_big_quiet_step ((go_at_call 23; exact calm_next HU.out (cW3.out _)))
            go_big_quiet_step ((go_at_call 22; exact calm_next HU.out (cS3.out _)))
            (refine quiet_one (by rfl) (.agg #[.int .u8 0, .int .u8 0, .int .u8 0, .int .u8 0]) (fun w => by simp [execOp, go_sem, hz4]) ?_; simp only [Act.put, List.setIfInBounds_toArray, List.set_cons_zero, List.set_cons_succ])
            (refine quiet_one (by rfl) (.bool false) (exec_neqA 50 _ _ _ rfl _ _ _ rfl rfl gd4 ne4) ?_; simp only [Act.put, List.setIfInBounds_toArray, List.set_cons_zero, List.set_cons_succ])
            refine wpQuiet_nil ?_
            rintro _ ⟨u9, rfl⟩
            have HN : Hid (EoI B C R F w (fw u9)) := (HQ.out u9).i
            obtain ⟨W9, hW9⟩ : ∃ W, fw u9 = W := ⟨_, rfl⟩
            rw [hW9] at HN ⊢
            clear hW9 HU HQ hU cW3 cS3
            go_wp2
            go_roundw
            case rel => exact ⟨n + 1, by omega, by go_num, HN⟩
            case measure => simp [intOf]; omega
      · obtain rfl : n = 2 := by omega
        have HB : Hid (Below B w wr) := HK.out.below
        clear HK H1 HE CW2 CS2 cV
        go_wp2
        go_ret
        exact ⟨rfl, by first | exact HB.out | (rw [hB]; exact HB.out)⟩
theorem refEncoded10_any (m : Int) (hm : m = 1 ∨ m = 2) (R : Nat → Int) (F : Nat → Int) (hF : Byts 64 F) (ix : Int) (p : Bool) (h : Enc m F ix p R) (w : World) :
    Calls Tryz.prog 9 #[.int .i64 m, .agg (ints .u8 72 R).toArray, .agg (ints .u8 64 F).toArray, .int .i64 ix, .bool p] w fun e w' => e = .returned (.bool true) ∧ Below w.heap.size w w' := by
  rcases h.2 with ⟨e, h2⟩ | ⟨e, h2⟩ | ⟨e1, e2, _⟩
  · subst e; exact refEncoded10_1 R h.1 F hF ix p h2 w
  · subst e; exact refEncoded10_2 R h.1 F hF ix p h2 w
  · rcases hm with e | e
    · exact absurd e e1
    · exact absurd e e2
end Go.Proofs.YtoimbjbdkkohcaaGreatDoor
