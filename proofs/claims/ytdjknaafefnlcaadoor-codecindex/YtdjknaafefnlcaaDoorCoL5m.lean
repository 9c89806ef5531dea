/-
  CodecIndex.
-/
import Derived.Test.YtdjknaafefnlcaaDoorCoW12m
import Derived.Test.YtdjknaafefnlcaaDoorM10
namespace Go.Proofs.YtdjknaafefnlcaaDoor
open Go.RowKit Go.Shelf
open Po (El toE)
attribute [local go_sem] Oper.semAt_some

set_option maxRecDepth 100000 in
set_option maxHeartbeats 4000000 in
theorem codecIndex_core (m : Int) (F : Nat → Int) (hF : Byts 64 F) (ix : Int) (p : Bool) (R : Nat → Int) (hR : Byts 72 R) (w : World) (hT : TabW w) :
    Calls Tryd.prog 8 #[.int .i64 m, .agg (ints .u8 64 F).toArray, .int .i64 ix, .bool p, .agg (ints .u8 72 R).toArray] w fun e w' => e = .returned (.bool true) ∧ Below w.heap.size w w' := by
  have hz := zeroR
  have hz2 := zeroL10
  have hz3 := zero10
  have gd := gdR
  have gdl := gdL10
  obtain ⟨ZR, hZR⟩ : ∃ A, (ints .u8 72 fun _ => 0).toArray = A := ⟨_, rfl⟩
  obtain ⟨ZL, hZL⟩ : ∃ A, (ints .u8 64 fun _ => 0).toArray = A := ⟨_, rfl⟩
  rw [hZR] at hz
  rw [hZL] at hz2
  have HZ : Hid ((ints .u8 72 fun _ => 0).toArray = ZR ∧ (ints .u8 64 fun _ => 0).toArray = ZL) := ⟨hZR, hZL⟩
  have HT : Hid (TabW w) := hT
  have hlow := low_ix ix
  have hd := dk_low m R ix
  obtain ⟨K, hK⟩ : ∃ K, Dk m R ix = K := ⟨_, rfl⟩
  obtain ⟨y, hy⟩ : ∃ y, Df m R ix = y := ⟨_, rfl⟩
  have eE := eqlR (E10 m F ix p) (E10 m F ix p) (e10_byts m F ix p) (e10_byts m F ix p) true ⟨fun _ _ _ => rfl, fun _ => rfl⟩
  have eL := eqlL2 (Dl m R ix) (Dl m R ix) (dl_byts m R ix) (dl_byts m R ix) true ⟨fun _ _ _ => rfl, fun _ => rfl⟩
  have eV := eqlV10 K y
  have gdv := gdV10
  have cD1 : ∀ (c h r f : Nat) (W : World), CcAt W c h r f → TabW W → Calls Tryd.prog 13 #[.pointer (some ⟨c, 0, none⟩), .int .i64 m, .agg (ints .u8 72 R).toArray, .int .i64 ix] W fun e w' => e = .returned (.tuple #[.agg (ints .u8 64 (Dl m R ix)).toArray, .agg (vd2 (Dk m R ix) (Df m R ix)).toArray]) ∧ Below W.heap.size W w' := fun c h r f W H HT => decode10_any c h r f m R hR ix W H HT
  have cD2 : ∀ (c h r f : Nat) (W : World), CcAt W c h r f → TabW W → Calls Tryd.prog 13 #[.pointer (some ⟨c, 0, none⟩), .int .i64 m, .agg (ints .u8 72 R).toArray, .int .i64 (ix % 8388608)] W fun e w' => e = .returned (.tuple #[.agg (ints .u8 64 (Dl m R ix)).toArray, .agg (vd2 (Dk m R ix) (Df m R ix)).toArray]) ∧ Below W.heap.size W w' := fun c h r f W H HT => by
    have := decode10_any c h r f m R hR (ix % 8388608) W H HT
    rw [hd.1, hd.2.1, hd.2.2] at this; exact this
  have cE1 : ∀ (c h r f : Nat) (W : World), CcAt W c h r f → TabW W → Calls Tryd.prog 11 #[.pointer (some ⟨c, 0, none⟩), .int .i64 m, .agg (ints .u8 64 F).toArray, .int .i64 ix, .bool p] W fun e w' => e = .returned (.agg (ints .u8 72 (E10 m F ix p)).toArray) ∧ Below W.heap.size W w' := fun c h r f W H HT => encode10_is c h r f m F hF ix p W H HT
  have cE2 : ∀ (c h r f : Nat) (W : World), CcAt W c h r f → TabW W → Calls Tryd.prog 11 #[.pointer (some ⟨c, 0, none⟩), .int .i64 m, .agg (ints .u8 64 F).toArray, .int .i64 (ix % 8388608), .bool p] W fun e w' => e = .returned (.agg (ints .u8 72 (E10 m F ix p)).toArray) ∧ Below W.heap.size W w' := fun c h r f W H HT => by
    have := encode10_is c h r f m F hF (ix % 8388608) p W H HT
    rw [e10_low] at this; exact this
  simp only [hK, hy] at cD1 cD2
  obtain ⟨A0, hA0⟩ : ∃ A, ints .u8 64 F = A := ⟨_, rfl⟩
  have iA0 : (Tryd.prog.info? 23).map (·.size) = some A0.length := by rw [← hA0, ints_len]; exact infoL
  have jA0 : (Tryd.prog.info? 23).map (·.size) = some A0.toArray.size := by simpa using iA0
  have oA0 : A0.toArray.all (·.oneCell') = true := by rw [← hA0]; exact ints_one .u8 64 _
  obtain ⟨A1, hA1⟩ : ∃ A, ints .u8 72 R = A := ⟨_, rfl⟩
  have iA1 : (Tryd.prog.info? 25).map (·.size) = some A1.length := by rw [← hA1, ints_len]; exact infoR
  have jA1 : (Tryd.prog.info? 25).map (·.size) = some A1.toArray.size := by simpa using iA1
  have oA1 : A1.toArray.all (·.oneCell') = true := by rw [← hA1]; exact ints_one .u8 72 _
  obtain ⟨A2, hA2⟩ : ∃ A, ints .u8 64 (Dl m R ix) = A := ⟨_, rfl⟩
  have iA2 : (Tryd.prog.info? 23).map (·.size) = some A2.length := by rw [← hA2, ints_len]; exact infoL
  have jA2 : (Tryd.prog.info? 23).map (·.size) = some A2.toArray.size := by simpa using iA2
  have oA2 : A2.toArray.all (·.oneCell') = true := by rw [← hA2]; exact ints_one .u8 64 _
  obtain ⟨AE, hAE⟩ : ∃ A, ints .u8 72 (E10 m F ix p) = A := ⟨_, rfl⟩
  obtain ⟨AV, hAV⟩ : ∃ A, vd2 K y = A := ⟨_, rfl⟩
  have jAV : (Tryd.prog.info? 32).map (·.size) = some AV.toArray.size := by rw [← hAV]; simpa using info10v K y
  have iAV : (Tryd.prog.info? 32).map (·.size) = some AV.length := by simpa using jAV
  have oAV : AV.toArray.all (·.oneCell') = true := by rw [← hAV]; exact ints_one .i64 2 _
  obtain ⟨lo, hlo⟩ : ∃ n, ix % 8388608 = n := ⟨_, rfl⟩
  simp only [hA0, hA1, hA2, hAE, hAV, hlo] at cD1 cD2 cE1 cE2 eE eL eV
  rw [hlo] at hlow
  rw [hA0, hA1]
  have CD1 : Hid (∀ (c h r f : Nat) (W : World), CcAt W c h r f → TabW W → Calls Tryd.prog 13 #[.pointer (some ⟨c, 0, none⟩), .int .i64 m, .agg A1.toArray, .int .i64 ix] W fun e w' => e = .returned (.tuple #[.agg A2.toArray, .agg AV.toArray]) ∧ Below W.heap.size W w') := cD1
  have CD2 : Hid (∀ (c h r f : Nat) (W : World), CcAt W c h r f → TabW W → Calls Tryd.prog 13 #[.pointer (some ⟨c, 0, none⟩), .int .i64 m, .agg A1.toArray, .int .i64 lo] W fun e w' => e = .returned (.tuple #[.agg A2.toArray, .agg AV.toArray]) ∧ Below W.heap.size W w') := cD2
  have CE1 : Hid (∀ (c h r f : Nat) (W : World), CcAt W c h r f → TabW W → Calls Tryd.prog 11 #[.pointer (some ⟨c, 0, none⟩), .int .i64 m, .agg A0.toArray, .int .i64 ix, .bool p] W fun e w' => e = .returned (.agg AE.toArray) ∧ Below W.heap.size W w') := cE1
  have CE2 : Hid (∀ (c h r f : Nat) (W : World), CcAt W c h r f → TabW W → Calls Tryd.prog 11 #[.pointer (some ⟨c, 0, none⟩), .int .i64 m, .agg A0.toArray, .int .i64 lo, .bool p] W fun e w' => e = .returned (.agg AE.toArray) ∧ Below W.heap.size W w') := cE2
  have HA : Hid (ints .u8 64 F = A0 ∧ ints .u8 72 R = A1 ∧ ints .u8 64 (Dl m R ix) = A2 ∧ vd2 K y = AV) := ⟨hA0, hA1, hA2, hAV⟩
  clear cD1 cD2 cE1 cE2 hT hF hR hZR hZL hd hK hy hAE hAV hA2 hlo
  go_enter Tryd.func8, Tryd.ntmps8
  go_wp2_with fail
  obtain ⟨V, hV⟩ : ∃ V, ((w.alloc (.cells A0.toArray 23)).alloc (.cells A1.toArray 25)) = V := ⟨_, rfl⟩
  obtain ⟨B, hB⟩ : ∃ B, w.heap.size = B := ⟨_, rfl⟩
  have HV : Below w.heap.size w V ∧ ∀ p ∈ [(B, A0), (B + 1, A1)], At9 V p.1 p.2 := by
    have h0 := (Bk.new .u8 w 64 F 23).at9
    have h1 := (Bk.new .u8 (w.alloc (.cells A0.toArray 23)) 72 R 25).at9
    simp only [World.size_alloc] at h0 h1
    rw [hA0] at h0
    rw [hA1] at h1
    have g0 := (h0.alloc (.cells A1.toArray 25))
    have g1 := h1
    rw [hV] at g0 g1
    rw [hB] at g0 g1
    refine ⟨by rw [← hV]; exact (((Below.refl _ w).alloc (by simp <;> omega) _).alloc (by simp <;> omega) _), fun p hp => ?_⟩
    simp only [List.mem_cons, List.not_mem_nil, or_false] at hp
    rcases hp with rfl | rfl
    · exact g0
    · exact g1
  have HTV : Hid (TabW V) := HT.out.below HV.1 HT.out.lt
  rw [hV, hB]
  refine (coder_any V HTV.out).mono ?_
  rintro e V1 ⟨c, h, r, f, rfl, HC⟩
  have HS : Hid (LwS c h r f [(B, A0), (B + 1, A1)] w V1) := LwS.begin HC HV.1 HV.2
  clear HC HV hV HTV HT V
  clear hA0 hA1
  have r1 := (HS.out.rs (B + 1, A1) (by simp)).r
  go_wp2_with (first | refine wpList_load_mid rfl 25 _ rfl (B + 1) 0 rfl A1 _ r1 Tryd.underlying25 rfl iA1 ?_)
  refine (CD1.out c h r f _ HS.out.cc HS.out.tab).mono ?_
  rintro e V5 ⟨rfl, b5⟩
  replace HS := HS.out.next b5
  have L2 := HS.lay2 (Dl m R ix) K y 23 32 HZ.out.2 HA.out.2.2.1 HA.out.2.2.2
  have t1 := L2.1
  have t2 := L2.2.1
  have HS3 := L2.2.2.1
  clear L2 b5 HS r1
  go_upto_region 6 with (first | refine wpList_store_mid rfl 23 _ _ rfl V5.heap.size 0 A2.toArray rfl rfl t1 jA2 oA2 ?_ | refine wpList_store_mid rfl 32 _ _ rfl (V5.heap.size + 1) 0 AV.toArray rfl rfl t2 jAV oAV ?_)
  obtain ⟨P, hN⟩ : ∃ N, V5.heap.size = N := ⟨_, rfl⟩
  obtain ⟨V6, hV6⟩ : ∃ V6, (((V5.alloc (.cells ZL 23)).alloc (.cells #[.int .i64 0, .int .i64 0] 32)).setCells V5.heap.size 0 A2).setCells (V5.heap.size + 1) 0 AV = V6 := ⟨_, rfl⟩
  rw [hV6, hN] at HS3
  rw [hV6, hN]
  have HS : Hid (LwS c h r f [(P + 1, AV), (P, A2), (B, A0), (B + 1, A1)] w V6) := HS3
  clear hV6 hN HS3 t1 t2 V5
  have r1 := (HS.out.rs (B + 1, A1) (by simp)).r
  go_wp2_with (first | refine wpList_load_mid rfl 25 _ rfl (B + 1) 0 rfl A1 _ r1 Tryd.underlying25 rfl iA1 ?_)
  refine (CD2.out c h r f _ HS.out.cc HS.out.tab).mono ?_
  rintro e V5 ⟨rfl, b5⟩
  replace HS := HS.out.next b5
  have L2 := HS.lay2 (Dl m R ix) K y 23 32 HZ.out.2 HA.out.2.2.1 HA.out.2.2.2
  have t1 := L2.1
  have t2 := L2.2.1
  have HS3 := L2.2.2.1
  clear L2 b5 HS r1
  go_upto_region 7 with (first | refine wpList_store_mid rfl 23 _ _ rfl V5.heap.size 0 A2.toArray rfl rfl t1 jA2 oA2 ?_ | refine wpList_store_mid rfl 32 _ _ rfl (V5.heap.size + 1) 0 AV.toArray rfl rfl t2 jAV oAV ?_)
  obtain ⟨Q, hN⟩ : ∃ N, V5.heap.size = N := ⟨_, rfl⟩
  obtain ⟨V7, hV6⟩ : ∃ V6, (((V5.alloc (.cells ZL 23)).alloc (.cells #[.int .i64 0, .int .i64 0] 32)).setCells V5.heap.size 0 A2).setCells (V5.heap.size + 1) 0 AV = V6 := ⟨_, rfl⟩
  rw [hV6, hN] at HS3
  rw [hV6, hN]
  have HS : Hid (LwS c h r f [(Q + 1, AV), (Q, A2), (P + 1, AV), (P, A2), (B, A0), (B + 1, A1)] w V7) := HS3
  clear hV6 hN HS3 t1 t2 V5
  clear CD1 CD2 hz hz2 hz3 V1 V6
  simp only [Act.put]
  refine region_calm (by kernel_rfl) (by kernel_rfl) (fun W => Below V7.heap.size V7 W) (below_drew1 V7) ?_
  intro U hU fw hf hof
  have HU : Hid (∀ x W, Below (fw x).heap.size (fw x) W → ∃ y, W = fw y) := fun x W h => hof W ((hf x).trans (h.mono (hf x).size))
  have HE : Hid (∀ u, LwS c h r f [(Q + 1, AV), (Q, A2), (P + 1, AV), (P, A2), (B, A0), (B + 1, A1)] w (fw u)) := fun u => HS.out.next (hf u)
  clear hf hof
  go_big_quiet_step (fail)
  go_big_quiet_step (fail)
  (refine quiet_load (by rfl) 23 _ rfl B 0 rfl A0 _ (by rintro _ ⟨u, rfl⟩; exact ((HE.out u).rs (B, A0) (by simp)).r) Tryd.underlying23 rfl iA0 ?_; simp only [Act.put, List.setIfInBounds_toArray, List.set_cons_zero, List.set_cons_succ])
  go_big_quiet_step (fail)
  go_big_quiet_step (fail)
  go_big_quiet_step ((go_at_call 11; exact calm_next HU.out (CE1.out c h r f _ (HE.out _).cc (HE.out _).tab)))
  go_big_quiet_step (fail)
  go_big_quiet_step (fail)
  (refine quiet_load (by rfl) 23 _ rfl B 0 rfl A0 _ (by rintro _ ⟨u, rfl⟩; exact ((HE.out u).rs (B, A0) (by simp)).r) Tryd.underlying23 rfl iA0 ?_; simp only [Act.put, List.setIfInBounds_toArray, List.set_cons_zero, List.set_cons_succ])
  go_big_quiet_step (fail)
  go_big_quiet_step (fail)
  go_big_quiet_step ((go_at_call 11; exact calm_next HU.out (CE2.out c h r f _ (HE.out _).cc (HE.out _).tab)))
  (refine quiet_one (by rfl) (.bool true) (exec_eqlA _ _ _ _ rfl AE.toArray AE.toArray _ rfl rfl gd eE) ?_; simp only [Act.put, List.setIfInBounds_toArray, List.set_cons_zero, List.set_cons_succ])
  go_big_quiet_step (fail)
  (refine quiet_load (by rfl) 23 _ rfl P 0 rfl A2 _ (by rintro _ ⟨u, rfl⟩; exact ((HE.out u).rs (P, A2) (by simp)).r) Tryd.underlying23 rfl iA2 ?_; simp only [Act.put, List.setIfInBounds_toArray, List.set_cons_zero, List.set_cons_succ])
  (refine quiet_load (by rfl) 23 _ rfl Q 0 rfl A2 _ (by rintro _ ⟨u, rfl⟩; exact ((HE.out u).rs (Q, A2) (by simp)).r) Tryd.underlying23 rfl iA2 ?_; simp only [Act.put, List.setIfInBounds_toArray, List.set_cons_zero, List.set_cons_succ])
  (refine quiet_one (by rfl) (.bool true) (exec_eqlA _ _ _ _ rfl A2.toArray A2.toArray _ rfl rfl gdl eL) ?_; simp only [Act.put, List.setIfInBounds_toArray, List.set_cons_zero, List.set_cons_succ])
  go_big_quiet_step (fail)
  go_big_quiet_step (fail)
  (refine quiet_load (by rfl) 32 _ rfl (P + 1) 0 rfl AV _ (by rintro _ ⟨u, rfl⟩; exact ((HE.out u).rs (P + 1, AV) (by simp)).r) Tryd.underlying32 rfl iAV ?_; simp only [Act.put, List.setIfInBounds_toArray, List.set_cons_zero, List.set_cons_succ])
  (refine quiet_load (by rfl) 32 _ rfl (Q + 1) 0 rfl AV _ (by rintro _ ⟨u, rfl⟩; exact ((HE.out u).rs (Q + 1, AV) (by simp)).r) Tryd.underlying32 rfl iAV ?_; simp only [Act.put, List.setIfInBounds_toArray, List.set_cons_zero, List.set_cons_succ])
  (refine quiet_one (by rfl) (.bool true) (exec_eqlA _ _ _ _ rfl AV.toArray AV.toArray _ rfl rfl gdv eV) ?_; simp only [Act.put, List.setIfInBounds_toArray, List.set_cons_zero, List.set_cons_succ])
  go_big_quiet_step (fail)
  go_big_quiet_step (fail)
  refine wpQuiet_nil ?_
  rintro _ ⟨u9, rfl⟩
  have HB : Hid (Below w.heap.size w (fw u9)) := (HE.out u9).below
  obtain ⟨W9, hW9⟩ : ∃ W, fw u9 = W := ⟨_, rfl⟩
  rw [hW9] at HB ⊢
  clear hW9 HU HE hU CE1 CE2
  go_wp2_with fail
  go_ret
  exact ⟨rfl, by first | exact HB.out | (rw [← hB]; exact HB.out)⟩
theorem codecIndex_walk (a0 : Int) (a1 : Nat → Int) (a2 : Int) (a3 : Bool) (a4 : Nat → Int) (_w0 : (Lit.int .i64 a0).wf = true) (w1 : ∀ i, i < 64 → (Lit.int .u8 (a1 i)).wf = true) (_w2 : (Lit.int .i64 a2).wf = true) (w4 : ∀ i, i < 72 → (Lit.int .u8 (a4 i)).wf = true) (w : World) (hT : TabW w) :
    Calls Tryd.prog 8 #[.int .i64 a0, .agg (ints .u8 64 a1).toArray, .int .i64 a2, .bool a3, .agg (ints .u8 72 a4).toArray] w fun e w' => e = .returned (.bool true) ∧ Below w.heap.size w w' :=
  codecIndex_core a0 a1 (args_byts 64 a1 w1) a2 a3 a4 (args_byts 72 a4 w4) w hT
end Go.Proofs.YtdjknaafefnlcaaDoor
