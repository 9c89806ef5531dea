/-
  CodecChips.
-/
import Derived.Test.YtdjknaafefnlcaaDoorM19
import Derived.Test.YtdjknaafefnlcaaDoorCoM7m
import Derived.Test.YtdjknaafefnlcaaDoorM10
namespace Go.Proofs.YtdjknaafefnlcaaDoor
open Go.RowKit Go.Shelf
open Po (El toE)
attribute [local go_sem] Oper.semAt_some

set_option maxRecDepth 100000 in
set_option maxHeartbeats 6000000 in
theorem codecChips_core (F : Nat → Int) (hF : Byts 64 F) (ix ch v b : Int) (hv : 0 ≤ v ∧ v < 256) (hb : b ≤ 9223372036854775807) (w : World) (hT : TabW w) :
    Calls Tryd.prog 6 #[.agg (ints .u8 64 F).toArray, .int .i64 ix, .int .i64 ch, .int .u8 v, .int .i64 b] w fun e w' => e = .returned (.bool true) ∧ Below w.heap.size w w' := by
  have hz := zeroR
  have hz2 := zeroL10
  have hz3 := zero10
  have gd := gdR
  have gdl := gdL10
  obtain ⟨ZR, hZR⟩ : ∃ A, (ints .u8 72 fun _ => 0).toArray = A := ⟨_, rfl⟩
  obtain ⟨ZL, hZL⟩ : ∃ A, (ints .u8 64 fun _ => 0).toArray = A := ⟨_, rfl⟩
  rw [hZR] at hz
  rw [hZL] at hz2
  have HZ : Hid ((ints .u8 72 fun _ => 0).toArray = ZR ∧ (ints .u8 64 fun _ => 0).toArray = ZL) := ⟨hZR, hZL⟩
  have HT : Hid (TabW w) := hT
  have HF : Hid (Byts 64 F) := hF
  have HV : Hid (0 ≤ v ∧ v < 256) := hv
  have Hb : Hid (b ≤ 9223372036854775807) := hb
  have ee := eqlL2 F F hF hF true ⟨fun _ _ _ => rfl, fun _ => rfl⟩
  have nL := fun w => neq_ints 23 64 Tryd.underlying23 F F hF hF true ⟨fun _ _ _ => rfl, fun _ => rfl⟩ w
  have ez := eqlL2 (fun _ => 0) (fun _ => 0) (fun _ _ => ⟨Int.le_refl _, show (0 : Int) < 256 by decide⟩) (fun _ _ => ⟨Int.le_refl _, show (0 : Int) < 256 by decide⟩) true ⟨fun _ _ _ => rfl, fun _ => rfl⟩
  have cE : ∀ (c h r f : Nat) (W : World), CcAt W c h r f → TabW W → Calls Tryd.prog 11 #[.pointer (some ⟨c, 0, none⟩), .int .i64 2, .agg (ints .u8 64 F).toArray, .int .i64 ix, .bool false] W fun e w' => ∃ R, e = .returned (.agg (ints .u8 72 R).toArray) ∧ Enc 2 F ix false R ∧ Below W.heap.size W w' := fun c h r f W H HT => encode10_any c h r f 2 F hF ix false W H HT
  obtain ⟨A0, hA0⟩ : ∃ A, ints .u8 64 F = A := ⟨_, rfl⟩
  have iA0 : (Tryd.prog.info? 23).map (·.size) = some A0.length := by rw [← hA0, ints_len]; exact infoL
  have jA0 : (Tryd.prog.info? 23).map (·.size) = some A0.toArray.size := by simpa using iA0
  have oA0 : A0.toArray.all (·.oneCell') = true := by rw [← hA0]; exact ints_one .u8 64 _
  obtain ⟨AZ, hAZ⟩ : ∃ A, ints .u8 64 (fun _ => 0) = A := ⟨_, rfl⟩
  have iAZ : (Tryd.prog.info? 23).map (·.size) = some AZ.length := by rw [← hAZ, ints_len]; exact infoL
  have jAZ : (Tryd.prog.info? 23).map (·.size) = some AZ.toArray.size := by simpa using iAZ
  have oAZ : AZ.toArray.all (·.oneCell') = true := by rw [← hAZ]; exact ints_one .u8 64 _
  simp only [hA0] at cE ee nL
  simp only [hAZ] at ez
  rw [hA0]
  have z3 : ∀ w, (zeroValue 23).run Tryd.prog w = .ok (.agg AZ.toArray) w := fun w => by rw [← hAZ]; exact zeroL10 w
  have HZ3 : Hid (∀ w, (zeroValue 23).run Tryd.prog w = .ok (.agg AZ.toArray) w) := z3
  have HA0 : Hid (ints .u8 64 F = A0) := hA0
  have HAZ : Hid (ints .u8 64 (fun _ => 0) = AZ) := hAZ
  have CE : Hid (∀ (c h r f : Nat) (W : World), CcAt W c h r f → TabW W → Calls Tryd.prog 11 #[.pointer (some ⟨c, 0, none⟩), .int .i64 2, .agg A0.toArray, .int .i64 ix, .bool false] W fun e w' => ∃ R, e = .returned (.agg (ints .u8 72 R).toArray) ∧ Enc 2 F ix false R ∧ Below W.heap.size W w') := cE
  clear cE hT hF hZR hZL hAZ z3 hv hb
  go_enter Tryd.func6, Tryd.ntmps6
  go_wp2_with fail
  obtain ⟨V, hV⟩ : ∃ V, (w.alloc (.cells A0.toArray 23)) = V := ⟨_, rfl⟩
  obtain ⟨B, hB⟩ : ∃ B, w.heap.size = B := ⟨_, rfl⟩
  have HV : Below w.heap.size w V ∧ ∀ p ∈ [(B, A0)], At9 V p.1 p.2 := by
    have h0 := (Bk.new .u8 w 64 F 23).at9
    rw [hA0] at h0
    have g0 := h0
    rw [hV] at g0
    rw [hB] at g0
    refine ⟨by rw [← hV]; exact ((Below.refl _ w).alloc (by simp <;> omega) _), fun p hp => ?_⟩
    simp only [List.mem_cons, List.not_mem_nil, or_false] at hp
    subst hp
    · exact g0
  have HTV : Hid (TabW V) := HT.out.below HV.1 HT.out.lt
  rw [hV, hB]
  refine (coder_any V HTV.out).mono ?_
  rintro e V1 ⟨c, h, r, f, rfl, HC⟩
  have HS : Hid (LwS c h r f [(B, A0)] w V1) := LwS.begin HC HV.1 HV.2
  clear HC HV hV HTV HT V
  clear hA0
  have r0 := (HS.out.rs (B, A0) (by simp)).r
  go_wp2_with (refine wpList_load_mid rfl 23 _ rfl B 0 rfl A0 _ r0 Tryd.underlying23 rfl iA0 ?_)
  refine (CE.out c h r f _ HS.out.cc HS.out.tab).mono ?_
  rintro e V2 ⟨own, rfl, hE, b2⟩
  replace HS := HS.out.next b2
  have hmw : Mw 2 36 2 := .inr ⟨rfl, rfl, rfl⟩
  obtain ⟨X, hX⟩ : ∃ X, Rw.chp 36 ch own v = X := ⟨_, rfl⟩
  have bX : Byts 72 X := by rw [← hX]; exact chip_byts own hE.1 ch v HV.out
  have mX : Rw.mx 2 own X 36 2 ≤ 1 := by rw [← hX]; exact chip_mx own ch v
  obtain ⟨Y, bY, mY, cF⟩ := flip10 X bX b Hb.out
  have mt := Rw.mx_tri 2 own X Y 36 2
  have hcX := corrects hmw HF.out hE bX mX (un_same 2 ix)
  have hcY := fun hy => corrects (R := Y) hmw HF.out hE bY hy (un_same 2 ix)
  have hdY := detects (ix := ix) (p := false) hmw HF.out hE bY
  have hzX := Rw.mx_zero 2 own X 36 2 (by omega) (fun i hi => hE.1 i (by omega)) (fun i hi => bX i (by omega))
  have cC := fun w => chipR_any Md.chips own v ch w
  rw [show (36 : Int).toNat = 36 from rfl, hX] at cC
  have cX := fun w => refExposure_any Md.chips own Y hE.1 bY w
  have cX2 : ∀ W : World, Calls Tryd.prog 12 #[.int .i64 2, .agg (ints .u8 72 own).toArray, .agg (ints .u8 72 Y).toArray] W fun e w' => e = .returned (.int .i64 (Rw.mx 2 own Y 36 2 : Int)) ∧ Below W.heap.size W w' := cX
  have eX := fun bb hbb => eqlR X own bX hE.1 bb hbb
  have cD1 : ∀ (c h r f : Nat) (W : World), CcAt W c h r f → TabW W → Calls Tryd.prog 13 #[.pointer (some ⟨c, 0, none⟩), .int .i64 2, .agg (ints .u8 72 X).toArray, .int .i64 ix] W fun e w' => e = .returned (.tuple #[.agg (ints .u8 64 (Dl 2 X ix)).toArray, .agg (vd2 (Dk 2 X ix) (Df 2 X ix)).toArray]) ∧ Below W.heap.size W w' := fun c h r f W H HT => decode10_any c h r f 2 X bX ix W H HT
  have cD2 : ∀ (c h r f : Nat) (W : World), CcAt W c h r f → TabW W → Calls Tryd.prog 13 #[.pointer (some ⟨c, 0, none⟩), .int .i64 2, .agg (ints .u8 72 Y).toArray, .int .i64 ix] W fun e w' => e = .returned (.tuple #[.agg (ints .u8 64 (Dl 2 Y ix)).toArray, .agg (vd2 (Dk 2 Y ix) (Df 2 Y ix)).toArray]) ∧ Below W.heap.size W w' := fun c h r f W H HT => decode10_any c h r f 2 Y bY ix W H HT
  rw [ints_congr .u8 64 _ F hcX.1, hcX.2.1, HA0.out] at cD1
  obtain ⟨y1, hy1⟩ : ∃ y, Df 2 X ix = y := ⟨_, rfl⟩
  rw [hy1] at cD1
  obtain ⟨K2, hK2⟩ : ∃ K, Dk 2 Y ix = K := ⟨_, rfl⟩
  obtain ⟨y2, hy2⟩ : ∃ K, Df 2 Y ix = K := ⟨_, rfl⟩
  obtain ⟨LY, hLY⟩ : ∃ L, Dl 2 Y ix = L := ⟨_, rfl⟩
  rw [hK2, hy2, hLY] at cD2
  rw [hLY] at hcY
  rw [hK2, hLY] at hdY
  obtain ⟨k, hk⟩ : ∃ k, Rw.mx 2 own X 36 2 = k := ⟨_, rfl⟩
  obtain ⟨x, hx⟩ : ∃ k, Rw.mx 2 own Y 36 2 = k := ⟨_, rfl⟩
  rw [hk] at mX mt cD1 hzX
  rw [hx] at hcY hdY mt cX2
  have hx2 : x ≤ 2 := by omega
  have HY : Hid ((x ≤ 1 → ∀ i, i < 64 → LY i = F i) ∧ (x = 2 → K2 = 3 ∧ ∀ i, LY i = 0)) := ⟨fun h => (hcY h).1, fun h => by
    have := hdY (.inl ⟨rfl, by omega, by omega⟩)
    exact ⟨this.2.1 rfl, this.2.2⟩⟩
  clear hcX hcY hdY hK2 hy2 hLY hk hx hy1 mt mY hE b2 r0 CE cX HV Hb hmw
  obtain ⟨A1, hA1⟩ : ∃ A, ints .u8 72 own = A := ⟨_, rfl⟩
  have iA1 : (Tryd.prog.info? 25).map (·.size) = some A1.length := by rw [← hA1, ints_len]; exact infoR
  have jA1 : (Tryd.prog.info? 25).map (·.size) = some A1.toArray.size := by simpa using iA1
  have oA1 : A1.toArray.all (·.oneCell') = true := by rw [← hA1]; exact ints_one .u8 72 _
  obtain ⟨A2, hA2⟩ : ∃ A, ints .u8 72 X = A := ⟨_, rfl⟩
  have iA2 : (Tryd.prog.info? 25).map (·.size) = some A2.length := by rw [← hA2, ints_len]; exact infoR
  have jA2 : (Tryd.prog.info? 25).map (·.size) = some A2.toArray.size := by simpa using iA2
  have oA2 : A2.toArray.all (·.oneCell') = true := by rw [← hA2]; exact ints_one .u8 72 _
  obtain ⟨A4, hA4⟩ : ∃ A, ints .u8 72 Y = A := ⟨_, rfl⟩
  have iA4 : (Tryd.prog.info? 25).map (·.size) = some A4.length := by rw [← hA4, ints_len]; exact infoR
  have jA4 : (Tryd.prog.info? 25).map (·.size) = some A4.toArray.size := by simpa using iA4
  have oA4 : A4.toArray.all (·.oneCell') = true := by rw [← hA4]; exact ints_one .u8 72 _
  obtain ⟨AV, hAV⟩ : ∃ A, vd2 (k : Int) y1 = A := ⟨_, rfl⟩
  have jAV : (Tryd.prog.info? 32).map (·.size) = some AV.toArray.size := by rw [← hAV]; simpa using info10v (k : Int) y1
  have oAV : AV.toArray.all (·.oneCell') = true := by rw [← hAV]; exact ints_one .i64 2 _
  obtain ⟨AW, hAW⟩ : ∃ A, vd2 K2 y2 = A := ⟨_, rfl⟩
  have jAW : (Tryd.prog.info? 32).map (·.size) = some AW.toArray.size := by rw [← hAW]; simpa using info10v K2 y2
  have oAW : AW.toArray.all (·.oneCell') = true := by rw [← hAW]; exact ints_one .i64 2 _
  obtain ⟨AY, hAY⟩ : ∃ A, ints .u8 64 LY = A := ⟨_, rfl⟩
  rw [hA1, hA2] at cC
  rw [hA1, hA4] at cX2
  simp only [hA2, hAV] at cD1
  simp only [hA4, hAY, hAW] at cD2
  simp only [hA1, hA2] at eX
  simp only [hA2, hA4] at cF
  have CC : Hid (∀ W : World, Calls Tryd.prog 15 #[.agg A1.toArray, .int .i64 2, .int .i64 ch, .int .u8 v] W fun e w' => e = .returned (.agg A2.toArray) ∧ Below W.heap.size W w') := cC
  have CX : Hid (∀ W : World, Calls Tryd.prog 12 #[.int .i64 2, .agg A1.toArray, .agg A4.toArray] W fun e w' => e = .returned (.int .i64 (x : Int)) ∧ Below W.heap.size W w') := cX2
  have CF : Hid (∀ W : World, Calls Tryd.prog 16 #[.agg A2.toArray, .int .i64 b] W fun e w' => e = .returned (.agg A4.toArray) ∧ Below W.heap.size W w') := cF
  have CD1 : Hid (∀ (c h r f : Nat) (W : World), CcAt W c h r f → TabW W → Calls Tryd.prog 13 #[.pointer (some ⟨c, 0, none⟩), .int .i64 2, .agg A2.toArray, .int .i64 ix] W fun e w' => e = .returned (.tuple #[.agg A0.toArray, .agg AV.toArray]) ∧ Below W.heap.size W w') := cD1
  have CD2 : Hid (∀ (c h r f : Nat) (W : World), CcAt W c h r f → TabW W → Calls Tryd.prog 13 #[.pointer (some ⟨c, 0, none⟩), .int .i64 2, .agg A4.toArray, .int .i64 ix] W fun e w' => e = .returned (.tuple #[.agg AY.toArray, .agg AW.toArray]) ∧ Below W.heap.size W w') := cD2
  have EX : Hid (∀ bb : Bool, (bb = true ↔ ∀ i, i < 72 → X i = own i) → ∀ w, (binOp .eql 25 (.agg A2.toArray) (.agg A1.toArray)).run Tryd.prog w = .ok (.bool bb) w) := eX
  have HX : Hid (k = 0 ↔ ∀ i, i < 72 → X i = own i) := ⟨fun h i hi => (hzX.1 h i (by omega)).symm, fun h => hzX.2 fun i hi => (h i (by omega)).symm⟩
  have HA4 : Hid (ints .u8 72 Y = A4) := hA4
  have HAV : Hid (vd2 (k : Int) y1 = AV) := hAV
  have HAW : Hid (vd2 K2 y2 = AW) := hAW
  have HAY : Hid (ints .u8 64 LY = AY) := hAY
  have HA1 : Hid (ints .u8 72 own = A1) := hA1
  have HA2 : Hid (ints .u8 72 X = A2) := hA2
  rw [hA1]
  clear cC cX2 cF cD1 cD2 eX hzX hA4 hAV hAW hAY hA1 hA2 hX bX bY
  have L1 := HS.lay .u8 72 own 25 HZ.out.1 HA1.out
  have t1 := L1.1
  have HS3 := L1.2
  clear L1 HS
  go_upto_region 5 with (refine wpList_store_mid rfl 25 _ _ rfl V2.heap.size 0 A1.toArray rfl rfl t1 jA1 oA1 ?_)
  obtain ⟨N1, hN⟩ : ∃ N, V2.heap.size = N := ⟨_, rfl⟩
  obtain ⟨V1, hV6⟩ : ∃ V6, (V2.alloc (.cells ZR 25)).setCells V2.heap.size 0 A1 = V6 := ⟨_, rfl⟩
  rw [hV6, hN] at HS3
  rw [hV6, hN]
  have HS : Hid (LwS c h r f [(N1, A1), (B, A0)] w V1) := HS3
  replace HS := HS.out
  clear hV6 hN HS3 t1 V2
  have r1 := (HS.rs (N1, A1) (by simp)).r
  go_wp2_with (refine wpList_load_mid rfl 25 _ rfl N1 0 rfl A1 _ r1 Tryd.underlying25 rfl iA1 ?_)
  refine (CC.out _).mono ?_
  rintro e V2 ⟨rfl, b2⟩
  replace HS := HS.next b2
  clear r1 b2 CC V1
  have L1 := HS.lay .u8 72 X 25 HZ.out.1 HA2.out
  have t1 := L1.1
  have HS3 := L1.2
  clear L1 HS
  go_upto_region 6 with (refine wpList_store_mid rfl 25 _ _ rfl V2.heap.size 0 A2.toArray rfl rfl t1 jA2 oA2 ?_)
  obtain ⟨N2, hN⟩ : ∃ N, V2.heap.size = N := ⟨_, rfl⟩
  obtain ⟨V1, hV6⟩ : ∃ V6, (V2.alloc (.cells ZR 25)).setCells V2.heap.size 0 A2 = V6 := ⟨_, rfl⟩
  rw [hV6, hN] at HS3
  rw [hV6, hN]
  have HS : Hid (LwS c h r f [(N2, A2), (N1, A1), (B, A0)] w V1) := HS3
  replace HS := HS.out
  clear hV6 hN HS3 t1 V2
  have r2 := (HS.rs (N2, A2) (by simp)).r
  go_wp2_with (refine wpList_load_mid rfl 25 _ rfl N2 0 rfl A2 _ r2 Tryd.underlying25 rfl iA2 ?_)
  refine (CD1.out c h r f _ HS.cc HS.tab).mono ?_
  rintro e V2 ⟨rfl, b2⟩
  replace HS := HS.next b2
  clear r2 b2 CD1 V1
  have L2 := HS.lay2 F (k : Int) y1 23 32 HZ.out.2 HA0.out HAV.out
  have t1 := L2.1
  have t2 := L2.2.1
  have HS3 := L2.2.2
  clear L2 HS
  go_upto_region 7 with (first | refine wpList_store_mid rfl 23 _ _ rfl V2.heap.size 0 A0.toArray rfl rfl t1 jA0 oA0 ?_ | refine wpList_store_mid rfl 32 _ _ rfl (V2.heap.size + 1) 0 AV.toArray rfl rfl t2 jAV oAV ?_)
  obtain ⟨N3, hN⟩ : ∃ N, V2.heap.size = N := ⟨_, rfl⟩
  obtain ⟨V5, hV6⟩ : ∃ V6, (((V2.alloc (.cells ZL 23)).alloc (.cells #[.int .i64 0, .int .i64 0] 32)).setCells V2.heap.size 0 A0).setCells (V2.heap.size + 1) 0 AV = V6 := ⟨_, rfl⟩
  rw [hV6, hN] at HS3
  rw [hV6, hN]
  have HS : Hid (LwS c h r f [(N3 + 1, AV), (N3, A0), (N2, A2), (N1, A1), (B, A0)] w V5 ∧ Bk .i64 V5 (N3 + 1) 2 (two (k : Int) y1)) := HS3
  clear hV6 hN HS3 t1 t2 V2
  have hk01 : k = 0 ∨ k = 1 := by omega
  clear mX HAV HA1 HA2
  rcases hk01 with rfl | rfl
  · have eX := EX.out true ⟨fun _ => HX.out.1 rfl, fun _ => rfl⟩
    clear EX HX
    simp only [Act.put]
    refine region_calm (by kernel_rfl) (by kernel_rfl) (fun W => Below V5.heap.size V5 W) (below_drew1 V5) ?_
    intro U hU fw hf hof
    have HE : Hid (∀ u, LwS c h r f [(N3 + 1, AV), (N3, A0), (N2, A2), (N1, A1), (B, A0)] w (fw u)) := fun u => HS.out.1.next (hf u)
    have ck : ∀ u, (fw u).cell? ⟨N3 + 1, 0, none⟩ = some (.int .i64 0) := fun u => (HS.out.2.next (hf u)).cell 0 (by omega)
    clear hf hof
    (refine quiet_load (by rfl) 23 _ rfl N3 0 rfl A0 _ (by rintro _ ⟨u, rfl⟩; exact ((HE.out u).rs (N3, A0) (by simp)).r) Tryd.underlying23 rfl iA0 ?_; simp only [Act.put, List.setIfInBounds_toArray, List.set_cons_zero, List.set_cons_succ])
    (refine quiet_load (by rfl) 23 _ rfl B 0 rfl A0 _ (by rintro _ ⟨u, rfl⟩; exact ((HE.out u).rs (B, A0) (by simp)).r) Tryd.underlying23 rfl iA0 ?_; simp only [Act.put, List.setIfInBounds_toArray, List.set_cons_zero, List.set_cons_succ])
    (refine quiet_one (by rfl) (.bool false) (exec_neqA _ _ _ _ rfl A0.toArray A0.toArray _ rfl rfl gdl nL) ?_; simp only [Act.put, List.setIfInBounds_toArray, List.set_cons_zero, List.set_cons_succ])
    go_big_quiet_step (fail)
    go_big_quiet_step (fail)
    go_big_quiet_step (fail)
    go_big_quiet_step (fail)
    go_big_quiet_step (fail)
    go_big_quiet_step (fail)
    go_big_quiet_step (fail)
    go_big_quiet_step (fail)
    go_big_quiet_step (fail)
    (refine quiet_load (by rfl) 25 _ rfl N2 0 rfl A2 _ (by rintro _ ⟨u, rfl⟩; exact ((HE.out u).rs (N2, A2) (by simp)).r) Tryd.underlying25 rfl iA2 ?_; simp only [Act.put, List.setIfInBounds_toArray, List.set_cons_zero, List.set_cons_succ])
    (refine quiet_load (by rfl) 25 _ rfl N1 0 rfl A1 _ (by rintro _ ⟨u, rfl⟩; exact ((HE.out u).rs (N1, A1) (by simp)).r) Tryd.underlying25 rfl iA1 ?_; simp only [Act.put, List.setIfInBounds_toArray, List.set_cons_zero, List.set_cons_succ])
    (refine quiet_one (by rfl) (.bool true) (exec_eqlA _ _ _ _ rfl A2.toArray A1.toArray _ rfl rfl gd eX) ?_; simp only [Act.put, List.setIfInBounds_toArray, List.set_cons_zero, List.set_cons_succ])
    go_big_quiet_step (fail)
    go_big_quiet_step (fail)
    refine wpQuiet_nil ?_
    rintro _ ⟨u9, rfl⟩
    replace HS := HE.out u9
    obtain ⟨V6, hW9⟩ : ∃ W, fw u9 = W := ⟨_, rfl⟩
    rw [hW9] at HS ⊢
    clear hW9 HE hU ck eX V5
    go_upto_region 9 with fail
    have r2 := (HS.rs (N2, A2) (by simp)).r
    go_wp2_with (refine wpList_load_mid rfl 25 _ rfl N2 0 rfl A2 _ r2 Tryd.underlying25 rfl iA2 ?_)
    refine (CF.out _).mono ?_
    rintro e V7 ⟨rfl, b7⟩
    replace HS := HS.next b7
    clear r2 b7 CF V6
    have L1 := HS.lay .u8 72 Y 25 HZ.out.1 HA4.out
    have t1 := L1.1
    have HS3 := L1.2
    clear L1 HS
    go_upto_region 10 with (refine wpList_store_mid rfl 25 _ _ rfl V7.heap.size 0 A4.toArray rfl rfl t1 jA4 oA4 ?_)
    obtain ⟨N4, hN⟩ : ∃ N, V7.heap.size = N := ⟨_, rfl⟩
    obtain ⟨V6, hV6⟩ : ∃ V6, (V7.alloc (.cells ZR 25)).setCells V7.heap.size 0 A4 = V6 := ⟨_, rfl⟩
    rw [hV6, hN] at HS3
    rw [hV6, hN]
    have HS : Hid (LwS c h r f [(N4, A4), (N3 + 1, AV), (N3, A0), (N2, A2), (N1, A1), (B, A0)] w V6) := HS3
    replace HS := HS.out
    clear hV6 hN HS3 t1 V7
    have r4 := (HS.rs (N4, A4) (by simp)).r
    go_wp2_with (refine wpList_load_mid rfl 25 _ rfl N4 0 rfl A4 _ r4 Tryd.underlying25 rfl iA4 ?_)
    refine (CD2.out c h r f _ HS.cc HS.tab).mono ?_
    rintro e V7 ⟨rfl, b7⟩
    replace HS := HS.next b7
    clear r4 b7 CD2 V6
    have hx3 : x ≤ 1 ∨ x = 2 := by omega
    rcases hx3 with hx | rfl
    · have eAY : AY = A0 := by rw [← HAY.out, ← HA0.out]; exact ints_congr .u8 64 _ _ (HY.out.1 hx)
      rw [eAY]
      clear HY HAY hx2 eAY
      have L2 := HS.lay2 F K2 y2 23 32 HZ.out.2 HA0.out HAW.out
      have t1 := L2.1
      have t2 := L2.2.1
      have HS3 := L2.2.2
      clear L2 HS
      go_upto_region 11 with (first | refine wpList_store_mid rfl 23 _ _ rfl V7.heap.size 0 A0.toArray rfl rfl t1 jA0 oA0 ?_ | refine wpList_store_mid rfl 32 _ _ rfl (V7.heap.size + 1) 0 AW.toArray rfl rfl t2 jAW oAW ?_)
      obtain ⟨N5, hN⟩ : ∃ N, V7.heap.size = N := ⟨_, rfl⟩
      obtain ⟨V8, hV6⟩ : ∃ V6, (((V7.alloc (.cells ZL 23)).alloc (.cells #[.int .i64 0, .int .i64 0] 32)).setCells V7.heap.size 0 A0).setCells (V7.heap.size + 1) 0 AW = V6 := ⟨_, rfl⟩
      rw [hV6, hN] at HS3
      rw [hV6, hN]
      have HS : Hid (LwS c h r f [(N5 + 1, AW), (N5, A0), (N4, A4), (N3 + 1, AV), (N3, A0), (N2, A2), (N1, A1), (B, A0)] w V8 ∧ Bk .i64 V8 (N5 + 1) 2 (two K2 y2)) := HS3
      clear hV6 hN HS3 t1 t2 V7
      have c0 : V8.cell? ⟨N5 + 1, 0, none⟩ = some (.int .i64 K2) := HS.out.2.cell 0 (by omega)
      have r1 := (HS.out.1.rs (N1, A1) (by simp)).r
      have r4 := (HS.out.1.rs (N4, A4) (by simp)).r
      go_wp2_with (first | refine wpList_load_mid rfl 25 _ rfl N1 0 rfl A1 _ r1 Tryd.underlying25 rfl iA1 ?_ | refine wpList_load_mid rfl 25 _ rfl N4 0 rfl A4 _ r4 Tryd.underlying25 rfl iA4 ?_)
      refine (CX.out _).mono ?_
      rintro e V9 ⟨rfl, b9⟩
      have r0 := ((HS.out.1.next b9).rs (B, A0) (by simp)).r
      have r5 := ((HS.out.1.next b9).rs (N5, A0) (by simp)).r
      have HB : Hid (Below w.heap.size w V9) := (HS.out.1.next b9).below
      replace c0 : V9.cell? ⟨N5 + 1, 0, none⟩ = some (.int .i64 K2) := (HS.out.2.next b9).cell 0 (by omega)
      clear r1 r4 HS b9 V8 CX HA0 HAW HA4 HZ hz hz2 hz3
      go_wp2_with (first | refine wpList_load_mid rfl 23 _ rfl N5 0 rfl A0 _ r5 Tryd.underlying23 rfl iA0 ?_ | refine wpList_load_mid rfl 23 _ rfl B 0 rfl A0 _ r0 Tryd.underlying23 rfl iA0 ?_)
      go_ret
      exact ⟨rfl, by first | exact HB.out | (rw [← hB]; exact HB.out)⟩
    · obtain ⟨rfl, hl⟩ := HY.out.2 rfl
      have eAY : AY = AZ := by rw [← HAY.out, ← HAZ.out]; exact ints_congr .u8 64 _ _ fun i _ => hl i
      rw [eAY]
      clear HY HAY hx2 eAY hl
      have z3 := HZ3.out
      have L2 := HS.lay2 (fun _ => 0) 3 y2 23 32 HZ.out.2 HAZ.out HAW.out
      have t1 := L2.1
      have t2 := L2.2.1
      have HS3 := L2.2.2
      clear L2 HS
      go_upto_region 11 with (first | refine wpList_store_mid rfl 23 _ _ rfl V7.heap.size 0 AZ.toArray rfl rfl t1 jAZ oAZ ?_ | refine wpList_store_mid rfl 32 _ _ rfl (V7.heap.size + 1) 0 AW.toArray rfl rfl t2 jAW oAW ?_)
      obtain ⟨N5, hN⟩ : ∃ N, V7.heap.size = N := ⟨_, rfl⟩
      obtain ⟨V8, hV6⟩ : ∃ V6, (((V7.alloc (.cells ZL 23)).alloc (.cells #[.int .i64 0, .int .i64 0] 32)).setCells V7.heap.size 0 AZ).setCells (V7.heap.size + 1) 0 AW = V6 := ⟨_, rfl⟩
      rw [hV6, hN] at HS3
      rw [hV6, hN]
      have HS : Hid (LwS c h r f [(N5 + 1, AW), (N5, AZ), (N4, A4), (N3 + 1, AV), (N3, A0), (N2, A2), (N1, A1), (B, A0)] w V8 ∧ Bk .i64 V8 (N5 + 1) 2 (two 3 y2)) := HS3
      clear hV6 hN HS3 t1 t2 V7
      have c0 : V8.cell? ⟨N5 + 1, 0, none⟩ = some (.int .i64 3) := HS.out.2.cell 0 (by omega)
      have r1 := (HS.out.1.rs (N1, A1) (by simp)).r
      have r4 := (HS.out.1.rs (N4, A4) (by simp)).r
      go_wp2_with (first | refine wpList_load_mid rfl 25 _ rfl N1 0 rfl A1 _ r1 Tryd.underlying25 rfl iA1 ?_ | refine wpList_load_mid rfl 25 _ rfl N4 0 rfl A4 _ r4 Tryd.underlying25 rfl iA4 ?_)
      refine (CX.out _).mono ?_
      rintro e V9 ⟨rfl, b9⟩
      have r0 := ((HS.out.1.next b9).rs (B, A0) (by simp)).r
      have r5 := ((HS.out.1.next b9).rs (N5, AZ) (by simp)).r
      have HB : Hid (Below w.heap.size w V9) := (HS.out.1.next b9).below
      replace c0 : V9.cell? ⟨N5 + 1, 0, none⟩ = some (.int .i64 3) := (HS.out.2.next b9).cell 0 (by omega)
      clear r1 r4 HS b9 V8 CX HA0 HAW HA4 HZ hz hz2 hz3 ee
      go_wp2_with (first | refine wpList_load_mid rfl 23 _ rfl N5 0 rfl AZ _ r5 Tryd.underlying23 rfl iAZ ?_ | refine wpList_load_g (by rfl) 23 _ rfl N5 0 rfl AZ _ r5 Tryd.underlying23 rfl iAZ ?_)
      go_ret
      exact ⟨rfl, by first | exact HB.out | (rw [← hB]; exact HB.out)⟩
  · have eX := EX.out false ⟨fun e => absurd e (by decide), fun e => absurd (HX.out.2 e) (by decide)⟩
    clear EX HX
    simp only [Act.put]
    refine region_calm (by kernel_rfl) (by kernel_rfl) (fun W => Below V5.heap.size V5 W) (below_drew1 V5) ?_
    intro U hU fw hf hof
    have HE : Hid (∀ u, LwS c h r f [(N3 + 1, AV), (N3, A0), (N2, A2), (N1, A1), (B, A0)] w (fw u)) := fun u => HS.out.1.next (hf u)
    have ck : ∀ u, (fw u).cell? ⟨N3 + 1, 0, none⟩ = some (.int .i64 1) := fun u => (HS.out.2.next (hf u)).cell 0 (by omega)
    clear hf hof
    (refine quiet_load (by rfl) 23 _ rfl N3 0 rfl A0 _ (by rintro _ ⟨u, rfl⟩; exact ((HE.out u).rs (N3, A0) (by simp)).r) Tryd.underlying23 rfl iA0 ?_; simp only [Act.put, List.setIfInBounds_toArray, List.set_cons_zero, List.set_cons_succ])
    (refine quiet_load (by rfl) 23 _ rfl B 0 rfl A0 _ (by rintro _ ⟨u, rfl⟩; exact ((HE.out u).rs (B, A0) (by simp)).r) Tryd.underlying23 rfl iA0 ?_; simp only [Act.put, List.setIfInBounds_toArray, List.set_cons_zero, List.set_cons_succ])
    (refine quiet_one (by rfl) (.bool false) (exec_neqA _ _ _ _ rfl A0.toArray A0.toArray _ rfl rfl gdl nL) ?_; simp only [Act.put, List.setIfInBounds_toArray, List.set_cons_zero, List.set_cons_succ])
    go_big_quiet_step (fail)
    go_big_quiet_step (fail)
    go_big_quiet_step (fail)
    go_big_quiet_step (fail)
    go_big_quiet_step (fail)
    go_big_quiet_step (fail)
    go_big_quiet_step (fail)
    go_big_quiet_step (fail)
    go_big_quiet_step (fail)
    (refine quiet_load (by rfl) 25 _ rfl N2 0 rfl A2 _ (by rintro _ ⟨u, rfl⟩; exact ((HE.out u).rs (N2, A2) (by simp)).r) Tryd.underlying25 rfl iA2 ?_; simp only [Act.put, List.setIfInBounds_toArray, List.set_cons_zero, List.set_cons_succ])
    (refine quiet_load (by rfl) 25 _ rfl N1 0 rfl A1 _ (by rintro _ ⟨u, rfl⟩; exact ((HE.out u).rs (N1, A1) (by simp)).r) Tryd.underlying25 rfl iA1 ?_; simp only [Act.put, List.setIfInBounds_toArray, List.set_cons_zero, List.set_cons_succ])
    (refine quiet_one (by rfl) (.bool false) (exec_eqlA _ _ _ _ rfl A2.toArray A1.toArray _ rfl rfl gd eX) ?_; simp only [Act.put, List.setIfInBounds_toArray, List.set_cons_zero, List.set_cons_succ])
    go_big_quiet_step (fail)
    go_big_quiet_step (fail)
    refine wpQuiet_nil ?_
    rintro _ ⟨u9, rfl⟩
    replace HS := HE.out u9
    obtain ⟨V6, hW9⟩ : ∃ W, fw u9 = W := ⟨_, rfl⟩
    rw [hW9] at HS ⊢
    clear hW9 HE hU ck eX V5
    go_upto_region 9 with fail
    have r2 := (HS.rs (N2, A2) (by simp)).r
    go_wp2_with (refine wpList_load_mid rfl 25 _ rfl N2 0 rfl A2 _ r2 Tryd.underlying25 rfl iA2 ?_)
    refine (CF.out _).mono ?_
    rintro e V7 ⟨rfl, b7⟩
    replace HS := HS.next b7
    clear r2 b7 CF V6
    have L1 := HS.lay .u8 72 Y 25 HZ.out.1 HA4.out
    have t1 := L1.1
    have HS3 := L1.2
    clear L1 HS
    go_upto_region 10 with (refine wpList_store_mid rfl 25 _ _ rfl V7.heap.size 0 A4.toArray rfl rfl t1 jA4 oA4 ?_)
    obtain ⟨N4, hN⟩ : ∃ N, V7.heap.size = N := ⟨_, rfl⟩
    obtain ⟨V6, hV6⟩ : ∃ V6, (V7.alloc (.cells ZR 25)).setCells V7.heap.size 0 A4 = V6 := ⟨_, rfl⟩
    rw [hV6, hN] at HS3
    rw [hV6, hN]
    have HS : Hid (LwS c h r f [(N4, A4), (N3 + 1, AV), (N3, A0), (N2, A2), (N1, A1), (B, A0)] w V6) := HS3
    replace HS := HS.out
    clear hV6 hN HS3 t1 V7
    have r4 := (HS.rs (N4, A4) (by simp)).r
    go_wp2_with (refine wpList_load_mid rfl 25 _ rfl N4 0 rfl A4 _ r4 Tryd.underlying25 rfl iA4 ?_)
    refine (CD2.out c h r f _ HS.cc HS.tab).mono ?_
    rintro e V7 ⟨rfl, b7⟩
    replace HS := HS.next b7
    clear r4 b7 CD2 V6
    have hx3 : x ≤ 1 ∨ x = 2 := by omega
    rcases hx3 with hx | rfl
    · have eAY : AY = A0 := by rw [← HAY.out, ← HA0.out]; exact ints_congr .u8 64 _ _ (HY.out.1 hx)
      rw [eAY]
      clear HY HAY hx2 eAY
      have L2 := HS.lay2 F K2 y2 23 32 HZ.out.2 HA0.out HAW.out
      have t1 := L2.1
      have t2 := L2.2.1
      have HS3 := L2.2.2
      clear L2 HS
      go_upto_region 11 with (first | refine wpList_store_mid rfl 23 _ _ rfl V7.heap.size 0 A0.toArray rfl rfl t1 jA0 oA0 ?_ | refine wpList_store_mid rfl 32 _ _ rfl (V7.heap.size + 1) 0 AW.toArray rfl rfl t2 jAW oAW ?_)
      obtain ⟨N5, hN⟩ : ∃ N, V7.heap.size = N := ⟨_, rfl⟩
      obtain ⟨V8, hV6⟩ : ∃ V6, (((V7.alloc (.cells ZL 23)).alloc (.cells #[.int .i64 0, .int .i64 0] 32)).setCells V7.heap.size 0 A0).setCells (V7.heap.size + 1) 0 AW = V6 := ⟨_, rfl⟩
      rw [hV6, hN] at HS3
      rw [hV6, hN]
      have HS : Hid (LwS c h r f [(N5 + 1, AW), (N5, A0), (N4, A4), (N3 + 1, AV), (N3, A0), (N2, A2), (N1, A1), (B, A0)] w V8 ∧ Bk .i64 V8 (N5 + 1) 2 (two K2 y2)) := HS3
      clear hV6 hN HS3 t1 t2 V7
      have c0 : V8.cell? ⟨N5 + 1, 0, none⟩ = some (.int .i64 K2) := HS.out.2.cell 0 (by omega)
      have r1 := (HS.out.1.rs (N1, A1) (by simp)).r
      have r4 := (HS.out.1.rs (N4, A4) (by simp)).r
      go_wp2_with (first | refine wpList_load_mid rfl 25 _ rfl N1 0 rfl A1 _ r1 Tryd.underlying25 rfl iA1 ?_ | refine wpList_load_mid rfl 25 _ rfl N4 0 rfl A4 _ r4 Tryd.underlying25 rfl iA4 ?_)
      refine (CX.out _).mono ?_
      rintro e V9 ⟨rfl, b9⟩
      have r0 := ((HS.out.1.next b9).rs (B, A0) (by simp)).r
      have r5 := ((HS.out.1.next b9).rs (N5, A0) (by simp)).r
      have HB : Hid (Below w.heap.size w V9) := (HS.out.1.next b9).below
      replace c0 : V9.cell? ⟨N5 + 1, 0, none⟩ = some (.int .i64 K2) := (HS.out.2.next b9).cell 0 (by omega)
      clear r1 r4 HS b9 V8 CX HA0 HAW HA4 HZ hz hz2 hz3
      go_wp2_with (first | refine wpList_load_mid rfl 23 _ rfl N5 0 rfl A0 _ r5 Tryd.underlying23 rfl iA0 ?_ | refine wpList_load_mid rfl 23 _ rfl B 0 rfl A0 _ r0 Tryd.underlying23 rfl iA0 ?_)
      go_ret
      exact ⟨rfl, by first | exact HB.out | (rw [← hB]; exact HB.out)⟩
    · obtain ⟨rfl, hl⟩ := HY.out.2 rfl
      have eAY : AY = AZ := by rw [← HAY.out, ← HAZ.out]; exact ints_congr .u8 64 _ _ fun i _ => hl i
      rw [eAY]
      clear HY HAY hx2 eAY hl
      have z3 := HZ3.out
      have L2 := HS.lay2 (fun _ => 0) 3 y2 23 32 HZ.out.2 HAZ.out HAW.out
      have t1 := L2.1
      have t2 := L2.2.1
      have HS3 := L2.2.2
      clear L2 HS
      go_upto_region 11 with (first | refine wpList_store_mid rfl 23 _ _ rfl V7.heap.size 0 AZ.toArray rfl rfl t1 jAZ oAZ ?_ | refine wpList_store_mid rfl 32 _ _ rfl (V7.heap.size + 1) 0 AW.toArray rfl rfl t2 jAW oAW ?_)
      obtain ⟨N5, hN⟩ : ∃ N, V7.heap.size = N := ⟨_, rfl⟩
      obtain ⟨V8, hV6⟩ : ∃ V6, (((V7.alloc (.cells ZL 23)).alloc (.cells #[.int .i64 0, .int .i64 0] 32)).setCells V7.heap.size 0 AZ).setCells (V7.heap.size + 1) 0 AW = V6 := ⟨_, rfl⟩
      rw [hV6, hN] at HS3
      rw [hV6, hN]
      have HS : Hid (LwS c h r f [(N5 + 1, AW), (N5, AZ), (N4, A4), (N3 + 1, AV), (N3, A0), (N2, A2), (N1, A1), (B, A0)] w V8 ∧ Bk .i64 V8 (N5 + 1) 2 (two 3 y2)) := HS3
      clear hV6 hN HS3 t1 t2 V7
      have c0 : V8.cell? ⟨N5 + 1, 0, none⟩ = some (.int .i64 3) := HS.out.2.cell 0 (by omega)
      have r1 := (HS.out.1.rs (N1, A1) (by simp)).r
      have r4 := (HS.out.1.rs (N4, A4) (by simp)).r
      go_wp2_with (first | refine wpList_load_mid rfl 25 _ rfl N1 0 rfl A1 _ r1 Tryd.underlying25 rfl iA1 ?_ | refine wpList_load_mid rfl 25 _ rfl N4 0 rfl A4 _ r4 Tryd.underlying25 rfl iA4 ?_)
      refine (CX.out _).mono ?_
      rintro e V9 ⟨rfl, b9⟩
      have r0 := ((HS.out.1.next b9).rs (B, A0) (by simp)).r
      have r5 := ((HS.out.1.next b9).rs (N5, AZ) (by simp)).r
      have HB : Hid (Below w.heap.size w V9) := (HS.out.1.next b9).below
      replace c0 : V9.cell? ⟨N5 + 1, 0, none⟩ = some (.int .i64 3) := (HS.out.2.next b9).cell 0 (by omega)
      clear r1 r4 HS b9 V8 CX HA0 HAW HA4 HZ hz hz2 hz3 ee
      go_wp2_with (first | refine wpList_load_mid rfl 23 _ rfl N5 0 rfl AZ _ r5 Tryd.underlying23 rfl iAZ ?_ | refine wpList_load_g (by rfl) 23 _ rfl N5 0 rfl AZ _ r5 Tryd.underlying23 rfl iAZ ?_)
      go_ret
      exact ⟨rfl, by first | exact HB.out | (rw [← hB]; exact HB.out)⟩
theorem codecChips_walk (a0 : Nat → Int) (a1 a2 a3 a4 : Int) (w0 : ∀ i, i < 64 → (Lit.int .u8 (a0 i)).wf = true) (_w1 : (Lit.int .i64 a1).wf = true) (_w2 : (Lit.int .i64 a2).wf = true) (w3 : (Lit.int .u8 a3).wf = true) (w4 : (Lit.int .i64 a4).wf = true) (w : World) (hT : TabW w) :
    Calls Tryd.prog 6 #[.agg (ints .u8 64 a0).toArray, .int .i64 a1, .int .i64 a2, .int .u8 a3, .int .i64 a4] w fun e w' => e = .returned (.bool true) ∧ Below w.heap.size w w' :=
  codecChips_core a0 (args_byts 64 a0 w0) a1 a2 a3 a4 (by have := bounds_u8 w3; omega) (by have := bounds_i64 w4; omega) w hT
end Go.Proofs.YtdjknaafefnlcaaDoor
