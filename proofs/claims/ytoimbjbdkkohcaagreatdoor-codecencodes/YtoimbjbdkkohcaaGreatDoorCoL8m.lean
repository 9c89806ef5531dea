/-
  CodecEncodes.
-/
import Derived.Test.YtoimbjbdkkohcaaGreatDoorM19
import Derived.Test.YtoimbjbdkkohcaaGreatDoorM11
import Derived.Test.YtoimbjbdkkohcaaGreatDoorCoM10m
import Derived.Test.YtoimbjbdkkohcaaGreatDoorCoR6m
namespace Go.Proofs.YtoimbjbdkkohcaaGreatDoor
open Go.RowKit Go.Shelf
open Po (El toE)
attribute [local go_sem] Oper.semAt_some

theorem zbyt {n : Nat} : Byts n (fun _ => 0) := fun _ _ => ⟨Int.le_refl _, show (0 : Int) < 256 by decide⟩
theorem gdA72 : Tryz.prog.eqGuardType Tryz.prog.depth 26 = false := by kernel_rfl
theorem neqA72 (F : Nat → Int) (hF : Byts 72 F) (w : World) : (binOp .neq 26 (.agg (ints .u8 72 F).toArray) (.agg (ints .u8 72 F).toArray)).run Tryz.prog w = .ok (.bool false) w :=
  neq_ints 26 72 Tryz.underlying26 F F hF hF true ⟨fun _ _ _ => rfl, fun _ => rfl⟩ w
theorem encode10_enc2 (c h r f : Nat) (m : Int) (F : Nat → Int) (hF : Byts 64 F) (ix : Int) (p : Bool) (w : World) (hc : CcAt w c h r f) (hT : TabW w) :
    Calls Tryz.prog 6 #[.pointer (some ⟨c, 0, none⟩), .int .i64 m, .agg (ints .u8 64 F).toArray, .int .i64 ix, .bool p] w fun e w' => e = .returned (.agg (ints .u8 72 (E10 m F ix p)).toArray) ∧ Enc m F ix p (E10 m F ix p) ∧ Below w.heap.size w w' :=
  (encode10_any c h r f m F hF ix p w hc hT).mono fun e w' ⟨R, he, hE, hb⟩ => ⟨by rw [he, ints_congr .u8 72 R (E10 m F ix p) (Enc.same hE (E10_of hE))], E10_of hE, hb⟩
set_option maxRecDepth 100000 in
set_option maxHeartbeats 2000000 in
theorem codecEncodes_core (m : Int) (F : Nat → Int) (hF : Byts 64 F) (ix : Int) (p : Bool) (w : World) (hT : TabW w) :
    Calls Tryz.prog 3 #[.int .i64 m, .agg (ints .u8 64 F).toArray, .int .i64 ix, .bool p] w fun e w' => e = .returned (.bool true) ∧ Below w.heap.size w w' := by
  have hz := zeroR
  have hz2 := zeroL10
  have hz3 := zero10
  have gd := gdR
  have gdl := gdL10
  obtain ⟨ZR, hZR⟩ : ∃ A, (ints .u8 72 fun _ => 0).toArray = A := ⟨_, rfl⟩
  obtain ⟨ZL, hZL⟩ : ∃ A, (ints .u8 64 fun _ => 0).toArray = A := ⟨_, rfl⟩
  rw [hZR] at hz
  rw [hZL] at hz2
  have HZ : Hid ((ints .u8 72 fun _ => 0).toArray = ZR ∧ (ints .u8 64 fun _ => 0).toArray = ZL) := ⟨hZR, hZL⟩
  have gda := gdA72
  have gdv := gdV10
  have HT : Hid (TabW w) := hT
  have HF : Hid (Byts 64 F) := hF
  have cM : Hid (∀ W : World, Calls Tryz.prog 8 #[.int .i64 m] W fun e w' => e = .returned (.bool (decide (m = 1 ∨ m = 2))) ∧ w' = W) := mode10_any m
  have cE : ∀ (c h r f : Nat) (W : World), CcAt W c h r f → TabW W → Calls Tryz.prog 6 #[.pointer (some ⟨c, 0, none⟩), .int .i64 m, .agg (ints .u8 64 F).toArray, .int .i64 ix, .bool p] W fun e w' => e = .returned (.agg (ints .u8 72 (E10 m F ix p)).toArray) ∧ Enc m F ix p (E10 m F ix p) ∧ Below W.heap.size W w' := fun c h r f W H HT => encode10_enc2 c h r f m F hF ix p W H HT
  have hXb := e10_byts m F ix p
  have cR : (m = 1 ∨ m = 2) → ∀ W : World, Calls Tryz.prog 10 #[.int .i64 m, .agg (ints .u8 64 F).toArray, .int .i64 ix, .bool p] W fun e w' => e = .returned (.agg (ints .u8 72 (E10 m F ix p)).toArray) ∧ Below W.heap.size W w' := fun hm W => refEncode10_any m hm F hF ix p W
  obtain ⟨X, hX⟩ : ∃ X, E10 m F ix p = X := ⟨_, rfl⟩
  simp only [hX] at cE cR hXb
  have cD : ∀ (c h r f : Nat) (W : World), CcAt W c h r f → TabW W → Calls Tryz.prog 7 #[.pointer (some ⟨c, 0, none⟩), .int .i64 m, .agg (ints .u8 72 X).toArray, .int .i64 ix] W fun e w' => e = .returned (.tuple #[.agg (ints .u8 64 (Dl m X ix)).toArray, .agg (vd2 (Dk m X ix) (Df m X ix)).toArray]) ∧ Below W.heap.size W w' := fun c h r f W H HT => decode10_any c h r f m X hXb ix W H HT
  have cO : (m = 1 ∨ m = 2) → Enc m F ix p X → ∀ W : World, Calls Tryz.prog 9 #[.int .i64 m, .agg (ints .u8 72 X).toArray, .agg (ints .u8 64 F).toArray, .int .i64 ix, .bool p] W fun e w' => e = .returned (.bool true) ∧ Below W.heap.size W w' := fun hm hE W => refEncoded10_any m hm X F hF ix p hE W
  have nX := neqA72 X hXb
  have dlb := dl_byts m X ix
  obtain ⟨G, hG⟩ : ∃ G, Dl m X ix = G := ⟨_, rfl⟩
  obtain ⟨x, hx⟩ : ∃ x, Dk m X ix = x := ⟨_, rfl⟩
  obtain ⟨y, hy⟩ : ∃ y, Df m X ix = y := ⟨_, rfl⟩
  have HG : Hid (Dl m X ix = G ∧ Dk m X ix = x ∧ Df m X ix = y) := ⟨hG, hx, hy⟩
  have HB2 : Hid (Byts 72 X ∧ Byts 64 G) := ⟨hXb, by rw [← hG]; exact dlb⟩
  simp only [hG, hx, hy] at cD
  obtain ⟨A0, hA0⟩ : ∃ A, ints .u8 64 F = A := ⟨_, rfl⟩
  have iA0 : (Tryz.prog.info? 23).map (·.size) = some A0.length := by rw [← hA0, ints_len]; exact infoL
  have jA0 : (Tryz.prog.info? 23).map (·.size) = some A0.toArray.size := by simpa using iA0
  have oA0 : A0.toArray.all (·.oneCell') = true := by rw [← hA0]; exact ints_one .u8 64 _
  obtain ⟨A1, hA1⟩ : ∃ A, ints .u8 72 X = A := ⟨_, rfl⟩
  have iA1 : (Tryz.prog.info? 27).map (·.size) = some A1.length := by rw [← hA1, ints_len]; exact infoR
  have jA1 : (Tryz.prog.info? 27).map (·.size) = some A1.toArray.size := by simpa using iA1
  have oA1 : A1.toArray.all (·.oneCell') = true := by rw [← hA1]; exact ints_one .u8 72 _
  obtain ⟨A2, hA2⟩ : ∃ A, ints .u8 64 G = A := ⟨_, rfl⟩
  have iA2 : (Tryz.prog.info? 23).map (·.size) = some A2.length := by rw [← hA2, ints_len]; exact infoL
  have jA2 : (Tryz.prog.info? 23).map (·.size) = some A2.toArray.size := by simpa using iA2
  have oA2 : A2.toArray.all (·.oneCell') = true := by rw [← hA2]; exact ints_one .u8 64 _
  obtain ⟨AV, hAV⟩ : ∃ A, vd2 x y = A := ⟨_, rfl⟩
  have iAV : (Tryz.prog.info? 30).map (·.size) = some AV.length := by rw [← hAV]; exact info10v x y
  have jAV : (Tryz.prog.info? 30).map (·.size) = some AV.toArray.size := by simpa using iAV
  have oAV : AV.toArray.all (·.oneCell') = true := by rw [← hAV]; exact ints_one .i64 2 _
  simp only [hA0, hA1] at cE cR cO nX
  simp only [hA1, hA2, hAV] at cD
  rw [hA0]
  have CE : Hid (∀ (c h r f : Nat) (W : World), CcAt W c h r f → TabW W → Calls Tryz.prog 6 #[.pointer (some ⟨c, 0, none⟩), .int .i64 m, .agg A0.toArray, .int .i64 ix, .bool p] W fun e w' => e = .returned (.agg A1.toArray) ∧ Enc m F ix p X ∧ Below W.heap.size W w') := cE
  have CD : Hid (∀ (c h r f : Nat) (W : World), CcAt W c h r f → TabW W → Calls Tryz.prog 7 #[.pointer (some ⟨c, 0, none⟩), .int .i64 m, .agg A1.toArray, .int .i64 ix] W fun e w' => e = .returned (.tuple #[.agg A2.toArray, .agg AV.toArray]) ∧ Below W.heap.size W w') := cD
  have CR : Hid ((m = 1 ∨ m = 2) → ∀ W : World, Calls Tryz.prog 10 #[.int .i64 m, .agg A0.toArray, .int .i64 ix, .bool p] W fun e w' => e = .returned (.agg A1.toArray) ∧ Below W.heap.size W w') := cR
  have CO : Hid ((m = 1 ∨ m = 2) → Enc m F ix p X → ∀ W : World, Calls Tryz.prog 9 #[.int .i64 m, .agg A1.toArray, .agg A0.toArray, .int .i64 ix, .bool p] W fun e w' => e = .returned (.bool true) ∧ Below W.heap.size W w') := cO
  have NX : Hid (∀ w, (binOp .neq 26 (.agg A1.toArray) (.agg A1.toArray)).run Tryz.prog w = .ok (.bool false) w) := nX
  have HA : Hid (ints .u8 64 F = A0 ∧ ints .u8 72 X = A1 ∧ ints .u8 64 G = A2 ∧ vd2 x y = AV) := ⟨hA0, hA1, hA2, hAV⟩
  clear cE cD cR cO nX hT hF hZR hZL hG hx hy hX hXb dlb
  go_enter Tryz.func3, Tryz.ntmps3
  go_wp2_with fail
  obtain ⟨V, hV⟩ : ∃ V, (w.alloc (.cells A0.toArray 23)) = V := ⟨_, rfl⟩
  obtain ⟨B, hB⟩ : ∃ B, w.heap.size = B := ⟨_, rfl⟩
  have HV : Below w.heap.size w V ∧ ∀ p ∈ [(B, A0)], At9 V p.1 p.2 := by
    have h0 := (Bk.new .u8 w 64 F 23).at9
    rw [hA0] at h0
    have g0 := h0
    rw [hV] at g0
    rw [hB] at g0
    refine ⟨by rw [← hV]; exact ((Below.refl _ w).alloc (by simp <;> omega) _), fun p hp => ?_⟩
    simp only [List.mem_cons, List.not_mem_nil, or_false] at hp
    subst hp
    · exact g0
  have HTV : Hid (TabW V) := HT.out.below HV.1 HT.out.lt
  rw [hV, hB]
  refine (coder_any V HTV.out).mono ?_
  rintro e V1 ⟨c, h, r, f, rfl, HC⟩
  have HS : Hid (LwS c h r f [(B, A0)] w V1) := LwS.begin HC HV.1 HV.2
  clear HC HV hV HTV HT V
  clear hA0 hA1 hA2 hAV
  have r0 := (HS.out.rs (B, A0) (by simp)).r
  go_wp2_with (refine wpList_load_mid rfl 23 _ rfl (B) 0 rfl A0 _ r0 Tryz.underlying23 rfl iA0 ?_)
  refine (CE.out c h r f _ HS.out.cc HS.out.tab).mono ?_
  rintro e V2 ⟨rfl, hEnc, b2⟩
  have HEnc : Hid (Enc m F ix p X) := hEnc
  replace HS : Hid (LwS c h r f [(B, A0)] w V2) := HS.out.next b2
  have L1 := HS.out.lay .u8 72 X 27 HZ.out.1 HA.out.2.1
  have t1 := L1.1
  have HS2 : Hid (LwS c h r f ((V2.heap.size, A1) :: [(B, A0)]) w ((V2.alloc (.cells ZR 27)).setCells V2.heap.size 0 A1)) := L1.2
  clear L1 b2 CE r0 HS hEnc
  go_upto_region 5 with (refine wpList_store_mid rfl 27 _ _ rfl V2.heap.size 0 A1.toArray rfl rfl t1 jA1 oA1 ?_)
  obtain ⟨N, hN⟩ : ∃ N, V2.heap.size = N := ⟨_, rfl⟩
  obtain ⟨V3, hV3⟩ : ∃ V3, (V2.alloc (.cells ZR 27)).setCells V2.heap.size 0 A1 = V3 := ⟨_, rfl⟩
  rw [hV3, hN] at HS2
  rw [hV3, hN]
  have r1 := (HS2.out.rs (N, A1) (by simp)).r
  clear hV3 hN t1 V2
  go_wp2_with (refine wpList_load_mid rfl 27 _ rfl N 0 rfl A1 _ r1 Tryz.underlying27 rfl iA1 ?_)
  refine (CD.out c h r f _ HS2.out.cc HS2.out.tab).mono ?_
  rintro e V5 ⟨rfl, b5⟩
  replace HS2 : Hid (LwS c h r f ((N, A1) :: [(B, A0)]) w V5) := HS2.out.next b5
  have L2 := HS2.out.lay2 G x y 23 30 HZ.out.2 HA.out.2.2.1 HA.out.2.2.2
  have t1 := L2.1
  have t2 := L2.2.1
  have HS3 : Hid (LwS c h r f ((V5.heap.size + 1, AV) :: (V5.heap.size, A2) :: (N, A1) :: [(B, A0)]) w ((((V5.alloc (.cells ZL 23)).alloc (.cells #[.int .i64 0, .int .i64 0] 30)).setCells V5.heap.size 0 A2).setCells (V5.heap.size + 1) 0 AV)) := L2.2.2.1
  clear L2 b5 CD r1 HS2
  go_upto_region 6 with (first | refine wpList_store_mid rfl 23 _ _ rfl V5.heap.size 0 A2.toArray rfl rfl t1 jA2 oA2 ?_ | refine wpList_store_mid rfl 30 _ _ rfl (V5.heap.size + 1) 0 AV.toArray rfl rfl t2 jAV oAV ?_)
  obtain ⟨P, hP⟩ : ∃ N, V5.heap.size = N := ⟨_, rfl⟩
  obtain ⟨V6, hV6⟩ : ∃ V6, (((V5.alloc (.cells ZL 23)).alloc (.cells #[.int .i64 0, .int .i64 0] 30)).setCells V5.heap.size 0 A2).setCells (V5.heap.size + 1) 0 AV = V6 := ⟨_, rfl⟩
  rw [hV6, hP] at HS3
  rw [hV6, hP]
  clear hV6 hP t1 t2 V5
  by_cases hm : m = 1 ∨ m = 2
  · have hd : decide (m = 1 ∨ m = 2) = true := by simpa using hm
    rw [hd] at cM
    obtain ⟨n, k, hmw⟩ := mw_any m hm
    have CO2 : Hid (∀ W : World, Calls Tryz.prog 9 #[.int .i64 m, .agg A1.toArray, .agg A0.toArray, .int .i64 ix, .bool p] W fun e w' => e = .returned (.bool true) ∧ Below W.heap.size W w') := CO.out hm HEnc.out
    have CR2 : Hid (∀ W : World, Calls Tryz.prog 10 #[.int .i64 m, .agg A0.toArray, .int .i64 ix, .bool p] W fun e w' => e = .returned (.agg A1.toArray) ∧ Below W.heap.size W w') := CR.out hm
    have HFin : Hid ((p = true → A2.toArray = ZL ∧ x = 2 ∧ y = 0) ∧ (p = false → A2 = A0 ∧ x = 0 ∧ y = 0)) := by
      refine ⟨fun hp => ?_, fun hp => ?_⟩
      · subst hp
        obtain ⟨h1, h2, h3⟩ := own_poisoned hmw HEnc.out
        rw [HG.out.1] at h1
        rw [HG.out.2.1] at h2
        rw [HG.out.2.2] at h3
        exact ⟨by rw [← HA.out.2.2.1, ints_congr .u8 64 G (fun _ => 0) h1]; exact HZ.out.2, h2, h3⟩
      · subst hp
        obtain ⟨h1, h2, h3⟩ := own_clean hmw HF.out HEnc.out
        rw [HG.out.1] at h1
        rw [HG.out.2.1] at h2
        rw [HG.out.2.2] at h3
        exact ⟨by rw [← HA.out.2.2.1, ints_congr .u8 64 G F h1]; exact HA.out.1, h2, h3⟩
    clear hd hm hmw CO CR
    go_upto_region 8 with (go_at_call 8; refine (cM.out _).mono ?_; rintro e w' ⟨rfl, hw2⟩; rw [hw2]; clear hw2 w')
    refine region_calm (by kernel_rfl) (by kernel_rfl) (fun W => Below V6.heap.size V6 W) (below_drew1 V6) ?_
    intro U hU fw hf hof
    have HU : Hid (∀ x W, Below (fw x).heap.size (fw x) W → ∃ y, W = fw y) := fun x W h => hof W ((hf x).trans (h.mono (hf x).size))
    have HQ : Hid (∀ u, LwS c h r f ((P + 1, AV) :: (P, A2) :: (N, A1) :: [(B, A0)]) w (fw u)) := fun u => HS3.out.next (hf u)
    clear hf hof HS3
    go_big_quiet_step (fail)
    (refine quiet_load (by rfl) 27 _ rfl N 0 rfl A1 _ (by rintro _ ⟨u, rfl⟩; exact ((HQ.out u).rs (N, A1) (by simp)).r) Tryz.underlying27 rfl iA1 ?_; simp only [Act.put, List.setIfInBounds_toArray, List.set_cons_zero, List.set_cons_succ])
    (refine quiet_load (by rfl) 23 _ rfl B 0 rfl A0 _ (by rintro _ ⟨u, rfl⟩; exact ((HQ.out u).rs (B, A0) (by simp)).r) Tryz.underlying23 rfl iA0 ?_; simp only [Act.put, List.setIfInBounds_toArray, List.set_cons_zero, List.set_cons_succ])
    go_big_quiet_step (fail)
    go_big_quiet_step (fail)
    go_big_quiet_step ((go_at_call 9; exact calm_next HU.out (CO2.out _)))
    go_big_quiet_step (fail)
    go_big_quiet_step (fail)
    (refine quiet_load (by rfl) 27 _ rfl N 0 rfl A1 _ (by rintro _ ⟨u, rfl⟩; exact ((HQ.out u).rs (N, A1) (by simp)).r) Tryz.underlying27 rfl iA1 ?_; simp only [Act.put, List.setIfInBounds_toArray, List.set_cons_zero, List.set_cons_succ])
    go_big_quiet_step (fail)
    (refine quiet_load (by rfl) 23 _ rfl B 0 rfl A0 _ (by rintro _ ⟨u, rfl⟩; exact ((HQ.out u).rs (B, A0) (by simp)).r) Tryz.underlying23 rfl iA0 ?_; simp only [Act.put, List.setIfInBounds_toArray, List.set_cons_zero, List.set_cons_succ])
    go_big_quiet_step (fail)
    go_big_quiet_step (fail)
    go_big_quiet_step ((go_at_call 10; exact calm_next HU.out (CR2.out _)))
    (refine quiet_one (by rfl) (.bool false) (exec_neqA 26 _ _ _ rfl _ _ _ rfl rfl gda NX.out) ?_; simp only [Act.put, List.setIfInBounds_toArray, List.set_cons_zero, List.set_cons_succ])
    go_big_quiet_step (fail)
    refine wpQuiet_nil ?_
    rintro _ ⟨u9, rfl⟩
    have HL : Hid (LwS c h r f ((P + 1, AV) :: (P, A2) :: (N, A1) :: [(B, A0)]) w (fw u9)) := HQ.out u9
    obtain ⟨V8, hV8⟩ : ∃ W, fw u9 = W := ⟨_, rfl⟩
    rw [hV8] at HL ⊢
    clear hV8 HU HQ hU CO2 CR2
    have q0 := (HL.out.rs (B, A0) (by simp)).r
    have q1 := (HL.out.rs (P, A2) (by simp)).r
    have q2 := (HL.out.rs (P + 1, AV) (by simp)).r
    have HB : Hid (Below w.heap.size w V8) := HL.out.below
    clear HL
    rcases Bool.eq_false_or_eq_true p with hp | hp
    · obtain ⟨e1, e2, e3⟩ := HFin.out.1 hp
      have EL : Hid (∀ w, (binOp .eql 23 (.agg A2.toArray) (.agg ZL)).run Tryz.prog w = .ok (.bool true) w) := fun w => by
        rw [e1, ← HZ.out.2]
        exact eqlL2 (fun _ => 0) (fun _ => 0) zbyt zbyt true ⟨fun _ _ _ => rfl, fun _ => rfl⟩ w
      obtain rfl : AV = [.int .i64 2, .int .i64 0] := by rw [← HA.out.2.2.2, e2, e3]; rfl
      have c0 : V8.cell? ⟨P + 1, 0, none⟩ = some (.int .i64 2) := q2 0 _ rfl
      have c1 : V8.cell? ⟨P + 1, 1, none⟩ = some (.int .i64 0) := q2 1 _ rfl
      have ev2 : ∀ w, (binOp .eql 30 (.agg #[.int .i64 2, .int .i64 0]) (.agg #[.int .i64 2, .int .i64 0])).run Tryz.prog w = .ok (.bool true) w := eqlV10 2 0
      have el := EL.out
      clear q2 e2 e3 HG HEnc e1 HFin
      subst hp
      go_wp2_with (first | refine wpList_load_mid rfl 23 _ rfl B 0 rfl A0 _ q0 Tryz.underlying23 rfl iA0 ?_ | refine wpList_load_mid rfl 23 _ rfl P 0 rfl A2 _ q1 Tryz.underlying23 rfl iA2 ?_ | refine wpList_load_g (by rfl) 23 _ rfl P 0 rfl A2 _ q1 Tryz.underlying23 rfl iA2 ?_)
      go_ret
      exact ⟨rfl, by first | exact HB.out | (rw [← hB]; exact HB.out)⟩
    · obtain ⟨e1, e2, e3⟩ := HFin.out.2 hp
      have EL : Hid (∀ w, (binOp .eql 23 (.agg A2.toArray) (.agg A0.toArray)).run Tryz.prog w = .ok (.bool true) w) := fun w => by
        rw [e1, ← HA.out.1]
        exact eqlL2 F F HF.out HF.out true ⟨fun _ _ _ => rfl, fun _ => rfl⟩ w
      obtain rfl : AV = [.int .i64 0, .int .i64 0] := by rw [← HA.out.2.2.2, e2, e3]; rfl
      have c0 : V8.cell? ⟨P + 1, 0, none⟩ = some (.int .i64 0) := q2 0 _ rfl
      have c1 : V8.cell? ⟨P + 1, 1, none⟩ = some (.int .i64 0) := q2 1 _ rfl
      have ev2 : ∀ w, (binOp .eql 30 (.agg #[.int .i64 0, .int .i64 0]) (.agg #[.int .i64 0, .int .i64 0])).run Tryz.prog w = .ok (.bool true) w := eqlV10 0 0
      have el := EL.out
      clear q2 e2 e3 HG HEnc e1 HFin
      subst hp
      go_wp2_with (first | refine wpList_load_mid rfl 23 _ rfl B 0 rfl A0 _ q0 Tryz.underlying23 rfl iA0 ?_ | refine wpList_load_mid rfl 23 _ rfl P 0 rfl A2 _ q1 Tryz.underlying23 rfl iA2 ?_ | refine wpList_load_g (by rfl) 23 _ rfl P 0 rfl A2 _ q1 Tryz.underlying23 rfl iA2 ?_)
      go_ret
      exact ⟨rfl, by first | exact HB.out | (rw [← hB]; exact HB.out)⟩
  · have hd : decide (m = 1 ∨ m = 2) = false := by simpa using hm
    rw [hd] at cM
    obtain ⟨h0, h1, h2, h3⟩ := own_none hm HEnc.out
    rw [HG.out.1] at h1
    rw [HG.out.2.1] at h2
    rw [HG.out.2.2] at h3
    have ER : Hid (∀ w, (binOp .eql 27 (.agg A1.toArray) (.agg ZR)).run Tryz.prog w = .ok (.bool true) w) := fun w => by
      rw [← HA.out.2.1, ints_congr .u8 72 X (fun _ => 0) h0, ← HZ.out.1]
      exact eqlR (fun _ => 0) (fun _ => 0) zbyt zbyt true ⟨fun _ _ _ => rfl, fun _ => rfl⟩ w
    have EL : Hid (∀ w, (binOp .eql 23 (.agg A2.toArray) (.agg ZL)).run Tryz.prog w = .ok (.bool true) w) := fun w => by
      rw [← HA.out.2.2.1, ints_congr .u8 64 G (fun _ => 0) h1, ← HZ.out.2]
      exact eqlL2 (fun _ => 0) (fun _ => 0) zbyt zbyt true ⟨fun _ _ _ => rfl, fun _ => rfl⟩ w
    have hp : True := trivial
    have e2 := h2
    have e3 := h3
    have q0 := (HS3.out.rs (N, A1) (by simp)).r
    have q1 := (HS3.out.rs (P, A2) (by simp)).r
    have q2 := (HS3.out.rs (P + 1, AV) (by simp)).r
    have HB : Hid (Below w.heap.size w V6) := HS3.out.below
    clear hd hm h0 h1 h2 h3 HS3
    go_upto_region 7 with (go_at_call 8; refine (cM.out _).mono ?_; rintro e w' ⟨rfl, hw2⟩; rw [hw2]; clear hw2 w')
    obtain rfl : AV = [.int .i64 3, .int .i64 0] := by rw [← HA.out.2.2.2, e2, e3]; rfl
    have c0 : V6.cell? ⟨P + 1, 0, none⟩ = some (.int .i64 3) := q2 0 _ rfl
    have c1 : V6.cell? ⟨P + 1, 1, none⟩ = some (.int .i64 0) := q2 1 _ rfl
    have ev2 : ∀ w, (binOp .eql 30 (.agg #[.int .i64 3, .int .i64 0]) (.agg #[.int .i64 3, .int .i64 0])).run Tryz.prog w = .ok (.bool true) w := eqlV10 3 0
    have el := EL.out
    have er := ER.out
    clear q2 e2 e3 HG HEnc hp
    go_wp2_with (first | refine wpList_load_mid rfl 27 _ rfl N 0 rfl A1 _ q0 Tryz.underlying27 rfl iA1 ?_ | refine wpList_load_mid rfl 23 _ rfl P 0 rfl A2 _ q1 Tryz.underlying23 rfl iA2 ?_ | refine wpList_load_g (by rfl) 23 _ rfl P 0 rfl A2 _ q1 Tryz.underlying23 rfl iA2 ?_)
    go_ret
    exact ⟨rfl, by first | exact HB.out | (rw [← hB]; exact HB.out)⟩
theorem codecEncodes_walk (a0 : Int) (a1 : Nat → Int) (a2 : Int) (a3 : Bool) (_w0 : (Lit.int .i64 a0).wf = true) (w1 : ∀ i, i < 64 → (Lit.int .u8 (a1 i)).wf = true) (_w2 : (Lit.int .i64 a2).wf = true) (w : World) (hT : TabW w) :
    Calls Tryz.prog 3 #[.int .i64 a0, .agg (ints .u8 64 a1).toArray, .int .i64 a2, .bool a3] w fun e w' => e = .returned (.bool true) ∧ Below w.heap.size w w' :=
  codecEncodes_core a0 a1 (args_byts 64 a1 w1) a2 a3 w hT
end Go.Proofs.YtoimbjbdkkohcaaGreatDoor
