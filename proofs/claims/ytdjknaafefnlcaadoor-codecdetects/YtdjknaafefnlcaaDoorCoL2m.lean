/-
  CodecDetects.
-/
import Derived.Test.YtdjknaafefnlcaaDoorM19
import Derived.Test.YtdjknaafefnlcaaDoorM10
namespace Go.Proofs.YtdjknaafefnlcaaDoor
open Go.RowKit Go.Shelf
open Po (El toE)
attribute [local go_sem] Oper.semAt_some

set_option maxRecDepth 100000 in
set_option maxHeartbeats 4000000 in
theorem codecDetects_core (m : Int) (F : Nat → Int) (hF : Byts 64 F) (ix : Int) (p : Bool) (R : Nat → Int) (hR : Byts 72 R) (w : World) (hT : TabW w) :
    Calls Tryd.prog 4 #[.int .i64 m, .agg (ints .u8 64 F).toArray, .int .i64 ix, .bool p, .agg (ints .u8 72 R).toArray] w fun e w' => e = .returned (.bool true) ∧ Below w.heap.size w w' := by
  have hz := zeroR
  have hz2 := zeroL10
  have hz3 := zero10
  have gd := gdR
  have gdl := gdL10
  obtain ⟨ZR, hZR⟩ : ∃ A, (ints .u8 72 fun _ => 0).toArray = A := ⟨_, rfl⟩
  obtain ⟨ZL, hZL⟩ : ∃ A, (ints .u8 64 fun _ => 0).toArray = A := ⟨_, rfl⟩
  rw [hZR] at hz
  rw [hZL] at hz2
  have HZ : Hid ((ints .u8 72 fun _ => 0).toArray = ZR ∧ (ints .u8 64 fun _ => 0).toArray = ZL) := ⟨hZR, hZL⟩
  have HT : Hid (TabW w) := hT
  have HF : Hid (Byts 64 F) := hF
  have HR : Hid (Byts 72 R) := hR
  have cM : Hid (∀ W : World, Calls Tryd.prog 10 #[.int .i64 m] W fun e w' => e = .returned (.bool (decide (m = 1 ∨ m = 2))) ∧ w' = W) := mode10_any m
  have ee := eqlL2 (fun _ => 0) (fun _ => 0) (fun _ _ => ⟨Int.le_refl _, show (0 : Int) < 256 by decide⟩) (fun _ _ => ⟨Int.le_refl _, show (0 : Int) < 256 by decide⟩) true ⟨fun _ _ _ => rfl, fun _ => rfl⟩
  have cE : ∀ (c h r f : Nat) (W : World), CcAt W c h r f → TabW W → Calls Tryd.prog 11 #[.pointer (some ⟨c, 0, none⟩), .int .i64 m, .agg (ints .u8 64 F).toArray, .int .i64 ix, .bool p] W fun e w' => ∃ R, e = .returned (.agg (ints .u8 72 R).toArray) ∧ Enc m F ix p R ∧ Below W.heap.size W w' := fun c h r f W H HT => encode10_any c h r f m F hF ix p W H HT
  obtain ⟨A0, hA0⟩ : ∃ A, ints .u8 64 F = A := ⟨_, rfl⟩
  have iA0 : (Tryd.prog.info? 23).map (·.size) = some A0.length := by rw [← hA0, ints_len]; exact infoL
  have jA0 : (Tryd.prog.info? 23).map (·.size) = some A0.toArray.size := by simpa using iA0
  have oA0 : A0.toArray.all (·.oneCell') = true := by rw [← hA0]; exact ints_one .u8 64 _
  obtain ⟨A1, hA1⟩ : ∃ A, ints .u8 72 R = A := ⟨_, rfl⟩
  have iA1 : (Tryd.prog.info? 25).map (·.size) = some A1.length := by rw [← hA1, ints_len]; exact infoR
  have jA1 : (Tryd.prog.info? 25).map (·.size) = some A1.toArray.size := by simpa using iA1
  have oA1 : A1.toArray.all (·.oneCell') = true := by rw [← hA1]; exact ints_one .u8 72 _
  obtain ⟨A3, hA3⟩ : ∃ A, ints .u8 64 (fun _ => 0) = A := ⟨_, rfl⟩
  have iA3 : (Tryd.prog.info? 23).map (·.size) = some A3.length := by rw [← hA3, ints_len]; exact infoL
  have jA3 : (Tryd.prog.info? 23).map (·.size) = some A3.toArray.size := by simpa using iA3
  have oA3 : A3.toArray.all (·.oneCell') = true := by rw [← hA3]; exact ints_one .u8 64 _
  simp only [hA0] at cE
  simp only [hA3] at ee
  rw [hA0, hA1]
  have CE : Hid (∀ (c h r f : Nat) (W : World), CcAt W c h r f → TabW W → Calls Tryd.prog 11 #[.pointer (some ⟨c, 0, none⟩), .int .i64 m, .agg A0.toArray, .int .i64 ix, .bool p] W fun e w' => ∃ R, e = .returned (.agg (ints .u8 72 R).toArray) ∧ Enc m F ix p R ∧ Below W.heap.size W w') := cE
  have HA : Hid (ints .u8 64 F = A0 ∧ ints .u8 72 R = A1) := ⟨hA0, hA1⟩
  clear cE hT hF hR hZR hZL
  go_enter Tryd.func4, Tryd.ntmps4
  go_wp2_with fail
  obtain ⟨V, hV⟩ : ∃ V, ((w.alloc (.cells A0.toArray 23)).alloc (.cells A1.toArray 25)) = V := ⟨_, rfl⟩
  obtain ⟨B, hB⟩ : ∃ B, w.heap.size = B := ⟨_, rfl⟩
  have HV : Below w.heap.size w V ∧ ∀ p ∈ [(B, A0), (B + 1, A1)], At9 V p.1 p.2 := by
    have h0 := (Bk.new .u8 w 64 F 23).at9
    have h1 := (Bk.new .u8 (w.alloc (.cells A0.toArray 23)) 72 R 25).at9
    simp only [World.size_alloc] at h0 h1
    rw [hA0] at h0
    rw [hA1] at h1
    have g0 := (h0.alloc (.cells A1.toArray 25))
    have g1 := h1
    rw [hV] at g0 g1
    rw [hB] at g0 g1
    refine ⟨by rw [← hV]; exact (((Below.refl _ w).alloc (by simp <;> omega) _).alloc (by simp <;> omega) _), fun p hp => ?_⟩
    simp only [List.mem_cons, List.not_mem_nil, or_false] at hp
    rcases hp with rfl | rfl
    · exact g0
    · exact g1
  have HTV : Hid (TabW V) := HT.out.below HV.1 HT.out.lt
  rw [hV, hB]
  refine (coder_any V HTV.out).mono ?_
  rintro e V1 ⟨c, h, r, f, rfl, HC⟩
  have HS : Hid (LwS c h r f [(B, A0), (B + 1, A1)] w V1) := LwS.begin HC HV.1 HV.2
  clear HC HV hV HTV HT V
  clear hA0 hA1
  by_cases hm : m = 1 ∨ m = 2
  · have hd : decide (m = 1 ∨ m = 2) = true := by simpa using hm
    rw [hd] at cM
    obtain ⟨n, k, hmw⟩ := mw_any m hm
    have HM : Hid (Mw m n k) := hmw
    clear hd hmw
    have r0 := (HS.out.rs (B, A0) (by simp)).r
    go_upto_region 6 with (go_at_call 10; refine (cM.out _).mono ?_; rintro e w' ⟨rfl, hw2⟩; rw [hw2]; clear hw2 w')
    go_wp2_with (refine wpList_load_mid rfl 23 _ rfl B 0 rfl A0 _ r0 Tryd.underlying23 rfl iA0 ?_)
    refine (CE.out c h r f _ HS.out.cc HS.out.tab).mono ?_
    rintro e V2 ⟨own, rfl, hE, b2⟩
    replace HS : Hid (LwS c h r f [(B, A0), (B + 1, A1)] w V2) := HS.out.next b2
    have cX : Hid (∀ W : World, Calls Tryd.prog 12 #[.int .i64 m, .agg (ints .u8 72 own).toArray, .agg (ints .u8 72 R).toArray] W fun e w' => e = .returned (.int .i64 (Rw.mx m own R n k : Int)) ∧ Below W.heap.size W w') := fun W => refExposure_any HM.out.md own R hE.1 HR.out W
    have hco := fun hx => detects HM.out HF.out hE HR.out hx
    have hxb : Rw.mx m own R n k ≤ 288 := by
      have := Rw.mx_bound m own R n k (fun i hi => hE.1 i (by rw [← HM.out.pos.2.2]; exact hi)) (fun i hi => HR.out i (by rw [← HM.out.pos.2.2]; exact hi))
      rcases HM.out with ⟨_, h, _⟩ | ⟨_, h, _⟩ <;> omega
    obtain ⟨x, hx⟩ : ∃ x, Rw.mx m own R n k = x := ⟨_, rfl⟩
    rw [hx] at cX hco hxb
    obtain ⟨A2, hA2⟩ : ∃ A, ints .u8 72 own = A := ⟨_, rfl⟩
    have iA2 : (Tryd.prog.info? 25).map (·.size) = some A2.length := by rw [← hA2, ints_len]; exact infoR
    have jA2 : (Tryd.prog.info? 25).map (·.size) = some A2.toArray.size := by simpa using iA2
    have oA2 : A2.toArray.all (·.oneCell') = true := by rw [← hA2]; exact ints_one .u8 72 _
  
    rw [hA2, HA.out.2] at cX
    have L1 := HS.out.lay .u8 72 own 25 HZ.out.1 hA2
    have t1 := L1.1
    have HS2 : Hid (LwS c h r f ((V2.heap.size, A2) :: [(B, A0), (B + 1, A1)]) w ((V2.alloc (.cells ZR 25)).setCells V2.heap.size 0 A2)) := L1.2
    have HCo : Hid ((p = false ∧ 2 ≤ x ∧ (x : Int) ≤ 1 + m) ∨ (p = true ∧ (x : Int) ≤ m) → 2 ≤ Dk m R ix ∧ (p = false → Dk m R ix = 3) ∧ ∀ i, Dl m R ix i = 0) := hco
    rw [hA2]
    clear L1 b2 hE hx hco CE cM r0 hA2
    go_upto_region 7 with (refine wpList_store_mid rfl 25 _ _ rfl V2.heap.size 0 A2.toArray rfl rfl t1 jA2 oA2 ?_)
    obtain ⟨N, hN⟩ : ∃ N, V2.heap.size = N := ⟨_, rfl⟩
    obtain ⟨V3, hV3⟩ : ∃ V3, (V2.alloc (.cells ZR 25)).setCells V2.heap.size 0 A2 = V3 := ⟨_, rfl⟩
    rw [hV3, hN] at HS2
    rw [hV3, hN]
    have r1 := (HS2.out.rs (B + 1, A1) (by simp)).r
    have r2 := (HS2.out.rs (N, A2) (by simp)).r
    clear hV3 hN HS t1 V2
    go_wp2_with (first | refine wpList_load_mid rfl 25 _ rfl (B + 1) 0 rfl A1 _ r1 Tryd.underlying25 rfl iA1 ?_ | refine wpList_load_mid rfl 25 _ rfl N 0 rfl A2 _ r2 Tryd.underlying25 rfl iA2 ?_)
    refine (cX.out _).mono ?_
    rintro e V4 ⟨rfl, b4⟩
    replace HS2 : Hid (LwS c h r f ((N, A2) :: [(B, A0), (B + 1, A1)]) w V4) := HS2.out.next b4
    clear b4 r1 r2 cX V3
    cases p
    · rcases hm with rfl | rfl
      · skip
        by_cases h1 : 2 < (x : Int)
        · skip
          have HB : Hid (Below w.heap.size w V4) := HS2.out.below
          clear HCo
          go_wp2
          go_ret
          exact ⟨rfl, by first | exact HB.out | (rw [← hB]; exact HB.out)⟩
        · by_cases h2 : (x : Int) < 2
          · skip
            have HB : Hid (Below w.heap.size w V4) := HS2.out.below
            clear HCo
            go_wp2
            go_ret
            exact ⟨rfl, by first | exact HB.out | (rw [← hB]; exact HB.out)⟩
          · obtain ⟨hk2, _, hl⟩ := HCo.out (.inl ⟨rfl, by omega, by omega⟩)
            clear HCo
            obtain ⟨K, hK⟩ : ∃ K, Dk 1 R ix = K := ⟨_, rfl⟩
            obtain ⟨y, hy⟩ : ∃ y, Df 1 R ix = y := ⟨_, rfl⟩
            have cD := fun W H HT => decode10_any c h r f 1 R HR.out ix W H HT
            rw [ints_congr .u8 64 _ (fun _ => 0) fun i _ => hl i, hK, hy, HA.out.2] at cD
            rw [hK] at hk2
            obtain ⟨AV, hAV⟩ : ∃ A, vd2 K y = A := ⟨_, rfl⟩
            rw [hAV, hA3] at cD
            have CD : Hid (∀ W : World, CcAt W c h r f → TabW W → Calls Tryd.prog 13 #[.pointer (some ⟨c, 0, none⟩), .int .i64 1, .agg A1.toArray, .int .i64 ix] W fun e w' => e = .returned (.tuple #[.agg A3.toArray, .agg AV.toArray]) ∧ Below W.heap.size W w') := cD
            have jAV : (Tryd.prog.info? 32).map (·.size) = some AV.toArray.size := by rw [← hAV]; simpa using info10v K y
            have oAV : AV.toArray.all (·.oneCell') = true := by rw [← hAV]; exact ints_one .i64 2 _
            have r1 := (HS2.out.rs (B + 1, A1) (by simp)).r
            clear cD hl hK hy
            go_wp2_with (refine wpList_load_mid rfl 25 _ rfl (B + 1) 0 rfl A1 _ r1 Tryd.underlying25 rfl iA1 ?_)
            refine (CD.out _ HS2.out.cc HS2.out.tab).mono ?_
            rintro e V5 ⟨rfl, b5⟩
            replace HS2 : Hid (LwS c h r f ((N, A2) :: [(B, A0), (B + 1, A1)]) w V5) := HS2.out.next b5
            have L2 := HS2.out.lay2 (fun _ => 0) K y 23 32 HZ.out.2 hA3 hAV
            have t1 := L2.1
            have t2 := L2.2.1
            have HS3 : Hid (LwS c h r f ((V5.heap.size + 1, AV) :: (V5.heap.size, A3) :: ((N, A2) :: [(B, A0), (B + 1, A1)])) w ((((V5.alloc (.cells ZL 23)).alloc (.cells #[.int .i64 0, .int .i64 0] 32)).setCells V5.heap.size 0 A3).setCells (V5.heap.size + 1) 0 AV) ∧ Bk .i64 ((((V5.alloc (.cells ZL 23)).alloc (.cells #[.int .i64 0, .int .i64 0] 32)).setCells V5.heap.size 0 A3).setCells (V5.heap.size + 1) 0 AV) (V5.heap.size + 1) 2 (two K y)) := L2.2.2
            clear L2 b5 CD r1
            go_upto_region 16 with (first | refine wpList_store_mid rfl 23 _ _ rfl V5.heap.size 0 A3.toArray rfl rfl t1 jA3 oA3 ?_ | refine wpList_store_mid rfl 32 _ _ rfl (V5.heap.size + 1) 0 AV.toArray rfl rfl t2 jAV oAV ?_)
            obtain ⟨P, hP⟩ : ∃ N, V5.heap.size = N := ⟨_, rfl⟩
            obtain ⟨V6, hV6⟩ : ∃ V6, (((V5.alloc (.cells ZL 23)).alloc (.cells #[.int .i64 0, .int .i64 0] 32)).setCells V5.heap.size 0 A3).setCells (V5.heap.size + 1) 0 AV = V6 := ⟨_, rfl⟩
            rw [hV6, hP] at HS3
            rw [hV6, hP]
            have q1 := (HS3.out.1.rs (P, A3) (by simp)).r
            have c0 : V6.cell? ⟨P + 1, 0, none⟩ = some (.int .i64 K) := HS3.out.2.cell 0 (by omega)
            have HB : Hid (Below w.heap.size w V6) := HS3.out.1.below
            have z3 : ∀ w, (zeroValue 23).run Tryd.prog w = .ok (.agg A3.toArray) w := fun w => by rw [← hA3]; exact zeroL10 w
            clear hV6 hP HS2 HS3 t1 t2 V5 hAV hz2
            go_wp2_with (first | refine wpList_load_mid rfl 23 _ rfl P 0 rfl A3 _ q1 Tryd.underlying23 rfl iA3 ?_ | refine wpList_load_g (by rfl) 23 _ rfl P 0 rfl A3 _ q1 Tryd.underlying23 rfl iA3 ?_)
            go_ret
            exact ⟨rfl, by first | exact HB.out | (rw [← hB]; exact HB.out)⟩
      · skip
        by_cases h1 : 3 < (x : Int)
        · skip
          have HB : Hid (Below w.heap.size w V4) := HS2.out.below
          clear HCo
          go_wp2
          go_ret
          exact ⟨rfl, by first | exact HB.out | (rw [← hB]; exact HB.out)⟩
        · by_cases h2 : (x : Int) < 2
          · skip
            have HB : Hid (Below w.heap.size w V4) := HS2.out.below
            clear HCo
            go_wp2
            go_ret
            exact ⟨rfl, by first | exact HB.out | (rw [← hB]; exact HB.out)⟩
          · obtain ⟨hk2, _, hl⟩ := HCo.out (.inl ⟨rfl, by omega, by omega⟩)
            clear HCo
            obtain ⟨K, hK⟩ : ∃ K, Dk 2 R ix = K := ⟨_, rfl⟩
            obtain ⟨y, hy⟩ : ∃ y, Df 2 R ix = y := ⟨_, rfl⟩
            have cD := fun W H HT => decode10_any c h r f 2 R HR.out ix W H HT
            rw [ints_congr .u8 64 _ (fun _ => 0) fun i _ => hl i, hK, hy, HA.out.2] at cD
            rw [hK] at hk2
            obtain ⟨AV, hAV⟩ : ∃ A, vd2 K y = A := ⟨_, rfl⟩
            rw [hAV, hA3] at cD
            have CD : Hid (∀ W : World, CcAt W c h r f → TabW W → Calls Tryd.prog 13 #[.pointer (some ⟨c, 0, none⟩), .int .i64 2, .agg A1.toArray, .int .i64 ix] W fun e w' => e = .returned (.tuple #[.agg A3.toArray, .agg AV.toArray]) ∧ Below W.heap.size W w') := cD
            have jAV : (Tryd.prog.info? 32).map (·.size) = some AV.toArray.size := by rw [← hAV]; simpa using info10v K y
            have oAV : AV.toArray.all (·.oneCell') = true := by rw [← hAV]; exact ints_one .i64 2 _
            have r1 := (HS2.out.rs (B + 1, A1) (by simp)).r
            clear cD hl hK hy
            go_wp2_with (refine wpList_load_mid rfl 25 _ rfl (B + 1) 0 rfl A1 _ r1 Tryd.underlying25 rfl iA1 ?_)
            refine (CD.out _ HS2.out.cc HS2.out.tab).mono ?_
            rintro e V5 ⟨rfl, b5⟩
            replace HS2 : Hid (LwS c h r f ((N, A2) :: [(B, A0), (B + 1, A1)]) w V5) := HS2.out.next b5
            have L2 := HS2.out.lay2 (fun _ => 0) K y 23 32 HZ.out.2 hA3 hAV
            have t1 := L2.1
            have t2 := L2.2.1
            have HS3 : Hid (LwS c h r f ((V5.heap.size + 1, AV) :: (V5.heap.size, A3) :: ((N, A2) :: [(B, A0), (B + 1, A1)])) w ((((V5.alloc (.cells ZL 23)).alloc (.cells #[.int .i64 0, .int .i64 0] 32)).setCells V5.heap.size 0 A3).setCells (V5.heap.size + 1) 0 AV) ∧ Bk .i64 ((((V5.alloc (.cells ZL 23)).alloc (.cells #[.int .i64 0, .int .i64 0] 32)).setCells V5.heap.size 0 A3).setCells (V5.heap.size + 1) 0 AV) (V5.heap.size + 1) 2 (two K y)) := L2.2.2
            clear L2 b5 CD r1
            go_upto_region 16 with (first | refine wpList_store_mid rfl 23 _ _ rfl V5.heap.size 0 A3.toArray rfl rfl t1 jA3 oA3 ?_ | refine wpList_store_mid rfl 32 _ _ rfl (V5.heap.size + 1) 0 AV.toArray rfl rfl t2 jAV oAV ?_)
            obtain ⟨P, hP⟩ : ∃ N, V5.heap.size = N := ⟨_, rfl⟩
            obtain ⟨V6, hV6⟩ : ∃ V6, (((V5.alloc (.cells ZL 23)).alloc (.cells #[.int .i64 0, .int .i64 0] 32)).setCells V5.heap.size 0 A3).setCells (V5.heap.size + 1) 0 AV = V6 := ⟨_, rfl⟩
            rw [hV6, hP] at HS3
            rw [hV6, hP]
            have q1 := (HS3.out.1.rs (P, A3) (by simp)).r
            have c0 : V6.cell? ⟨P + 1, 0, none⟩ = some (.int .i64 K) := HS3.out.2.cell 0 (by omega)
            have HB : Hid (Below w.heap.size w V6) := HS3.out.1.below
            have z3 : ∀ w, (zeroValue 23).run Tryd.prog w = .ok (.agg A3.toArray) w := fun w => by rw [← hA3]; exact zeroL10 w
            clear hV6 hP HS2 HS3 t1 t2 V5 hAV hz2
            go_wp2_with (first | refine wpList_load_mid rfl 23 _ rfl P 0 rfl A3 _ q1 Tryd.underlying23 rfl iA3 ?_ | refine wpList_load_g (by rfl) 23 _ rfl P 0 rfl A3 _ q1 Tryd.underlying23 rfl iA3 ?_)
            go_ret
            exact ⟨rfl, by first | exact HB.out | (rw [← hB]; exact HB.out)⟩
    · rcases hm with rfl | rfl
      · skip
        by_cases h1 : 1 < (x : Int)
        · skip
          have HB : Hid (Below w.heap.size w V4) := HS2.out.below
          clear HCo
          go_wp2
          go_ret
          exact ⟨rfl, by first | exact HB.out | (rw [← hB]; exact HB.out)⟩
        · obtain ⟨hk2, _, hl⟩ := HCo.out (.inr ⟨rfl, by omega⟩)
          clear HCo
          obtain ⟨K, hK⟩ : ∃ K, Dk 1 R ix = K := ⟨_, rfl⟩
          obtain ⟨y, hy⟩ : ∃ y, Df 1 R ix = y := ⟨_, rfl⟩
          have cD := fun W H HT => decode10_any c h r f 1 R HR.out ix W H HT
          rw [ints_congr .u8 64 _ (fun _ => 0) fun i _ => hl i, hK, hy, HA.out.2] at cD
          rw [hK] at hk2
          obtain ⟨AV, hAV⟩ : ∃ A, vd2 K y = A := ⟨_, rfl⟩
          rw [hAV, hA3] at cD
          have CD : Hid (∀ W : World, CcAt W c h r f → TabW W → Calls Tryd.prog 13 #[.pointer (some ⟨c, 0, none⟩), .int .i64 1, .agg A1.toArray, .int .i64 ix] W fun e w' => e = .returned (.tuple #[.agg A3.toArray, .agg AV.toArray]) ∧ Below W.heap.size W w') := cD
          have jAV : (Tryd.prog.info? 32).map (·.size) = some AV.toArray.size := by rw [← hAV]; simpa using info10v K y
          have oAV : AV.toArray.all (·.oneCell') = true := by rw [← hAV]; exact ints_one .i64 2 _
          have r1 := (HS2.out.rs (B + 1, A1) (by simp)).r
          clear cD hl hK hy
          go_wp2_with (refine wpList_load_mid rfl 25 _ rfl (B + 1) 0 rfl A1 _ r1 Tryd.underlying25 rfl iA1 ?_)
          refine (CD.out _ HS2.out.cc HS2.out.tab).mono ?_
          rintro e V5 ⟨rfl, b5⟩
          replace HS2 : Hid (LwS c h r f ((N, A2) :: [(B, A0), (B + 1, A1)]) w V5) := HS2.out.next b5
          have L2 := HS2.out.lay2 (fun _ => 0) K y 23 32 HZ.out.2 hA3 hAV
          have t1 := L2.1
          have t2 := L2.2.1
          have HS3 : Hid (LwS c h r f ((V5.heap.size + 1, AV) :: (V5.heap.size, A3) :: ((N, A2) :: [(B, A0), (B + 1, A1)])) w ((((V5.alloc (.cells ZL 23)).alloc (.cells #[.int .i64 0, .int .i64 0] 32)).setCells V5.heap.size 0 A3).setCells (V5.heap.size + 1) 0 AV) ∧ Bk .i64 ((((V5.alloc (.cells ZL 23)).alloc (.cells #[.int .i64 0, .int .i64 0] 32)).setCells V5.heap.size 0 A3).setCells (V5.heap.size + 1) 0 AV) (V5.heap.size + 1) 2 (two K y)) := L2.2.2
          clear L2 b5 CD r1
          go_upto_region 16 with (first | refine wpList_store_mid rfl 23 _ _ rfl V5.heap.size 0 A3.toArray rfl rfl t1 jA3 oA3 ?_ | refine wpList_store_mid rfl 32 _ _ rfl (V5.heap.size + 1) 0 AV.toArray rfl rfl t2 jAV oAV ?_)
          obtain ⟨P, hP⟩ : ∃ N, V5.heap.size = N := ⟨_, rfl⟩
          obtain ⟨V6, hV6⟩ : ∃ V6, (((V5.alloc (.cells ZL 23)).alloc (.cells #[.int .i64 0, .int .i64 0] 32)).setCells V5.heap.size 0 A3).setCells (V5.heap.size + 1) 0 AV = V6 := ⟨_, rfl⟩
          rw [hV6, hP] at HS3
          rw [hV6, hP]
          have q1 := (HS3.out.1.rs (P, A3) (by simp)).r
          have c0 : V6.cell? ⟨P + 1, 0, none⟩ = some (.int .i64 K) := HS3.out.2.cell 0 (by omega)
          have HB : Hid (Below w.heap.size w V6) := HS3.out.1.below
          have z3 : ∀ w, (zeroValue 23).run Tryd.prog w = .ok (.agg A3.toArray) w := fun w => by rw [← hA3]; exact zeroL10 w
          clear hV6 hP HS2 HS3 t1 t2 V5 hAV hz2
          go_wp2_with (first | refine wpList_load_mid rfl 23 _ rfl P 0 rfl A3 _ q1 Tryd.underlying23 rfl iA3 ?_ | refine wpList_load_g (by rfl) 23 _ rfl P 0 rfl A3 _ q1 Tryd.underlying23 rfl iA3 ?_)
          go_ret
          exact ⟨rfl, by first | exact HB.out | (rw [← hB]; exact HB.out)⟩
      · skip
        by_cases h1 : 2 < (x : Int)
        · skip
          have HB : Hid (Below w.heap.size w V4) := HS2.out.below
          clear HCo
          go_wp2
          go_ret
          exact ⟨rfl, by first | exact HB.out | (rw [← hB]; exact HB.out)⟩
        · by_cases h2 : (x : Int) < 2
          · obtain ⟨hk2, _, hl⟩ := HCo.out (.inr ⟨rfl, by omega⟩)
            clear HCo
            obtain ⟨K, hK⟩ : ∃ K, Dk 2 R ix = K := ⟨_, rfl⟩
            obtain ⟨y, hy⟩ : ∃ y, Df 2 R ix = y := ⟨_, rfl⟩
            have cD := fun W H HT => decode10_any c h r f 2 R HR.out ix W H HT
            rw [ints_congr .u8 64 _ (fun _ => 0) fun i _ => hl i, hK, hy, HA.out.2] at cD
            rw [hK] at hk2
            obtain ⟨AV, hAV⟩ : ∃ A, vd2 K y = A := ⟨_, rfl⟩
            rw [hAV, hA3] at cD
            have CD : Hid (∀ W : World, CcAt W c h r f → TabW W → Calls Tryd.prog 13 #[.pointer (some ⟨c, 0, none⟩), .int .i64 2, .agg A1.toArray, .int .i64 ix] W fun e w' => e = .returned (.tuple #[.agg A3.toArray, .agg AV.toArray]) ∧ Below W.heap.size W w') := cD
            have jAV : (Tryd.prog.info? 32).map (·.size) = some AV.toArray.size := by rw [← hAV]; simpa using info10v K y
            have oAV : AV.toArray.all (·.oneCell') = true := by rw [← hAV]; exact ints_one .i64 2 _
            have r1 := (HS2.out.rs (B + 1, A1) (by simp)).r
            clear cD hl hK hy
            go_wp2_with (refine wpList_load_mid rfl 25 _ rfl (B + 1) 0 rfl A1 _ r1 Tryd.underlying25 rfl iA1 ?_)
            refine (CD.out _ HS2.out.cc HS2.out.tab).mono ?_
            rintro e V5 ⟨rfl, b5⟩
            replace HS2 : Hid (LwS c h r f ((N, A2) :: [(B, A0), (B + 1, A1)]) w V5) := HS2.out.next b5
            have L2 := HS2.out.lay2 (fun _ => 0) K y 23 32 HZ.out.2 hA3 hAV
            have t1 := L2.1
            have t2 := L2.2.1
            have HS3 : Hid (LwS c h r f ((V5.heap.size + 1, AV) :: (V5.heap.size, A3) :: ((N, A2) :: [(B, A0), (B + 1, A1)])) w ((((V5.alloc (.cells ZL 23)).alloc (.cells #[.int .i64 0, .int .i64 0] 32)).setCells V5.heap.size 0 A3).setCells (V5.heap.size + 1) 0 AV) ∧ Bk .i64 ((((V5.alloc (.cells ZL 23)).alloc (.cells #[.int .i64 0, .int .i64 0] 32)).setCells V5.heap.size 0 A3).setCells (V5.heap.size + 1) 0 AV) (V5.heap.size + 1) 2 (two K y)) := L2.2.2
            clear L2 b5 CD r1
            go_upto_region 16 with (first | refine wpList_store_mid rfl 23 _ _ rfl V5.heap.size 0 A3.toArray rfl rfl t1 jA3 oA3 ?_ | refine wpList_store_mid rfl 32 _ _ rfl (V5.heap.size + 1) 0 AV.toArray rfl rfl t2 jAV oAV ?_)
            obtain ⟨P, hP⟩ : ∃ N, V5.heap.size = N := ⟨_, rfl⟩
            obtain ⟨V6, hV6⟩ : ∃ V6, (((V5.alloc (.cells ZL 23)).alloc (.cells #[.int .i64 0, .int .i64 0] 32)).setCells V5.heap.size 0 A3).setCells (V5.heap.size + 1) 0 AV = V6 := ⟨_, rfl⟩
            rw [hV6, hP] at HS3
            rw [hV6, hP]
            have q1 := (HS3.out.1.rs (P, A3) (by simp)).r
            have c0 : V6.cell? ⟨P + 1, 0, none⟩ = some (.int .i64 K) := HS3.out.2.cell 0 (by omega)
            have HB : Hid (Below w.heap.size w V6) := HS3.out.1.below
            have z3 : ∀ w, (zeroValue 23).run Tryd.prog w = .ok (.agg A3.toArray) w := fun w => by rw [← hA3]; exact zeroL10 w
            clear hV6 hP HS2 HS3 t1 t2 V5 hAV hz2
            go_wp2_with (first | refine wpList_load_mid rfl 23 _ rfl P 0 rfl A3 _ q1 Tryd.underlying23 rfl iA3 ?_ | refine wpList_load_g (by rfl) 23 _ rfl P 0 rfl A3 _ q1 Tryd.underlying23 rfl iA3 ?_)
            go_ret
            exact ⟨rfl, by first | exact HB.out | (rw [← hB]; exact HB.out)⟩
          · obtain ⟨hk2, _, hl⟩ := HCo.out (.inr ⟨rfl, by omega⟩)
            clear HCo
            obtain ⟨K, hK⟩ : ∃ K, Dk 2 R ix = K := ⟨_, rfl⟩
            obtain ⟨y, hy⟩ : ∃ y, Df 2 R ix = y := ⟨_, rfl⟩
            have cD := fun W H HT => decode10_any c h r f 2 R HR.out ix W H HT
            rw [ints_congr .u8 64 _ (fun _ => 0) fun i _ => hl i, hK, hy, HA.out.2] at cD
            rw [hK] at hk2
            obtain ⟨AV, hAV⟩ : ∃ A, vd2 K y = A := ⟨_, rfl⟩
            rw [hAV, hA3] at cD
            have CD : Hid (∀ W : World, CcAt W c h r f → TabW W → Calls Tryd.prog 13 #[.pointer (some ⟨c, 0, none⟩), .int .i64 2, .agg A1.toArray, .int .i64 ix] W fun e w' => e = .returned (.tuple #[.agg A3.toArray, .agg AV.toArray]) ∧ Below W.heap.size W w') := cD
            have jAV : (Tryd.prog.info? 32).map (·.size) = some AV.toArray.size := by rw [← hAV]; simpa using info10v K y
            have oAV : AV.toArray.all (·.oneCell') = true := by rw [← hAV]; exact ints_one .i64 2 _
            have r1 := (HS2.out.rs (B + 1, A1) (by simp)).r
            clear cD hl hK hy
            go_wp2_with (refine wpList_load_mid rfl 25 _ rfl (B + 1) 0 rfl A1 _ r1 Tryd.underlying25 rfl iA1 ?_)
            refine (CD.out _ HS2.out.cc HS2.out.tab).mono ?_
            rintro e V5 ⟨rfl, b5⟩
            replace HS2 : Hid (LwS c h r f ((N, A2) :: [(B, A0), (B + 1, A1)]) w V5) := HS2.out.next b5
            have L2 := HS2.out.lay2 (fun _ => 0) K y 23 32 HZ.out.2 hA3 hAV
            have t1 := L2.1
            have t2 := L2.2.1
            have HS3 : Hid (LwS c h r f ((V5.heap.size + 1, AV) :: (V5.heap.size, A3) :: ((N, A2) :: [(B, A0), (B + 1, A1)])) w ((((V5.alloc (.cells ZL 23)).alloc (.cells #[.int .i64 0, .int .i64 0] 32)).setCells V5.heap.size 0 A3).setCells (V5.heap.size + 1) 0 AV) ∧ Bk .i64 ((((V5.alloc (.cells ZL 23)).alloc (.cells #[.int .i64 0, .int .i64 0] 32)).setCells V5.heap.size 0 A3).setCells (V5.heap.size + 1) 0 AV) (V5.heap.size + 1) 2 (two K y)) := L2.2.2
            clear L2 b5 CD r1
            go_upto_region 16 with (first | refine wpList_store_mid rfl 23 _ _ rfl V5.heap.size 0 A3.toArray rfl rfl t1 jA3 oA3 ?_ | refine wpList_store_mid rfl 32 _ _ rfl (V5.heap.size + 1) 0 AV.toArray rfl rfl t2 jAV oAV ?_)
            obtain ⟨P, hP⟩ : ∃ N, V5.heap.size = N := ⟨_, rfl⟩
            obtain ⟨V6, hV6⟩ : ∃ V6, (((V5.alloc (.cells ZL 23)).alloc (.cells #[.int .i64 0, .int .i64 0] 32)).setCells V5.heap.size 0 A3).setCells (V5.heap.size + 1) 0 AV = V6 := ⟨_, rfl⟩
            rw [hV6, hP] at HS3
            rw [hV6, hP]
            have q1 := (HS3.out.1.rs (P, A3) (by simp)).r
            have c0 : V6.cell? ⟨P + 1, 0, none⟩ = some (.int .i64 K) := HS3.out.2.cell 0 (by omega)
            have HB : Hid (Below w.heap.size w V6) := HS3.out.1.below
            have z3 : ∀ w, (zeroValue 23).run Tryd.prog w = .ok (.agg A3.toArray) w := fun w => by rw [← hA3]; exact zeroL10 w
            clear hV6 hP HS2 HS3 t1 t2 V5 hAV hz2
            go_wp2_with (first | refine wpList_load_mid rfl 23 _ rfl P 0 rfl A3 _ q1 Tryd.underlying23 rfl iA3 ?_ | refine wpList_load_g (by rfl) 23 _ rfl P 0 rfl A3 _ q1 Tryd.underlying23 rfl iA3 ?_)
            go_ret
            exact ⟨rfl, by first | exact HB.out | (rw [← hB]; exact HB.out)⟩
  · have hd : decide (m = 1 ∨ m = 2) = false := by simpa using hm
    rw [hd] at cM
    have HB : Hid (Below w.heap.size w V1) := HS.out.below
    clear hd hm
    go_wp2_with (go_at_call 10; refine (cM.out _).mono ?_; rintro e w' ⟨rfl, hw2⟩; rw [hw2]; clear hw2 w')
    go_ret
    exact ⟨rfl, by first | exact HB.out | (rw [← hB]; exact HB.out)⟩
theorem codecDetects_walk (a0 : Int) (a1 : Nat → Int) (a2 : Int) (a3 : Bool) (a4 : Nat → Int) (_w0 : (Lit.int .i64 a0).wf = true) (w1 : ∀ i, i < 64 → (Lit.int .u8 (a1 i)).wf = true) (_w2 : (Lit.int .i64 a2).wf = true) (w4 : ∀ i, i < 72 → (Lit.int .u8 (a4 i)).wf = true) (w : World) (hT : TabW w) :
    Calls Tryd.prog 4 #[.int .i64 a0, .agg (ints .u8 64 a1).toArray, .int .i64 a2, .bool a3, .agg (ints .u8 72 a4).toArray] w fun e w' => e = .returned (.bool true) ∧ Below w.heap.size w w' :=
  codecDetects_core a0 a1 (args_byts 64 a1 w1) a2 a3 a4 (args_byts 72 a4 w4) w hT
end Go.Proofs.YtdjknaafefnlcaaDoor
