/-
  CodecDecodes.
-/
import Derived.Test.YtoimbjbdkkohcaaGreatDoorM19
import Derived.Test.YtoimbjbdkkohcaaGreatDoorM11
import Derived.Test.YtoimbjbdkkohcaaGreatDoorCoR3m
namespace Go.Proofs.YtoimbjbdkkohcaaGreatDoor
open Go.RowKit Go.Shelf
open Po (El toE)
attribute [local go_sem] Oper.semAt_some

theorem gdA10 : Tryz.prog.eqGuardType Tryz.prog.depth 22 = false := by kernel_rfl
theorem eqlA10 (F : Nat → Int) (hF : Byts 64 F) (w : World) : (binOp .eql 22 (.agg (ints .u8 64 F).toArray) (.agg (ints .u8 64 F).toArray)).run Tryz.prog w = .ok (.bool true) w :=
  eql_ints 22 64 Tryz.underlying22 F F hF hF true ⟨fun _ _ _ => rfl, fun _ => rfl⟩ w
set_option maxRecDepth 100000 in
set_option maxHeartbeats 2000000 in
theorem codecDecodes_core (m : Int) (R : Nat → Int) (hR : Byts 72 R) (ix : Int) (w : World) (hT : TabW w) :
    Calls Tryz.prog 4 #[.int .i64 m, .agg (ints .u8 72 R).toArray, .int .i64 ix] w fun e w' => e = .returned (.bool true) ∧ Below w.heap.size w w' := by
  have hz := zeroR
  have hz2 := zeroL10
  have hz3 := zero10
  have gd := gdR
  have gdl := gdL10
  obtain ⟨ZR, hZR⟩ : ∃ A, (ints .u8 72 fun _ => 0).toArray = A := ⟨_, rfl⟩
  obtain ⟨ZL, hZL⟩ : ∃ A, (ints .u8 64 fun _ => 0).toArray = A := ⟨_, rfl⟩
  rw [hZR] at hz
  rw [hZL] at hz2
  have HZ : Hid ((ints .u8 72 fun _ => 0).toArray = ZR ∧ (ints .u8 64 fun _ => 0).toArray = ZL) := ⟨hZR, hZL⟩
  have hzA := zeroA10
  have gda := gdA10
  have gdv := gdV10
  have iv10 := info10
  rw [hZL] at hzA
  have HT : Hid (TabW w) := hT
  have cM : Hid (∀ W : World, Calls Tryz.prog 8 #[.int .i64 m] W fun e w' => e = .returned (.bool (decide (m = 1 ∨ m = 2))) ∧ w' = W) := mode10_any m
  have cD : ∀ (c h r f : Nat) (W : World), CcAt W c h r f → TabW W → Calls Tryz.prog 7 #[.pointer (some ⟨c, 0, none⟩), .int .i64 m, .agg (ints .u8 72 R).toArray, .int .i64 ix] W fun e w' => e = .returned (.tuple #[.agg (ints .u8 64 (Dl m R ix)).toArray, .agg (vd2 (Dk m R ix) (Df m R ix)).toArray]) ∧ Below W.heap.size W w' := fun c h r f W H HT => decode10_any c h r f m R hR ix W H HT
  have cR : (m = 1 ∨ m = 2) → ∀ W : World, Calls Tryz.prog 11 #[.int .i64 m, .agg (ints .u8 72 R).toArray, .int .i64 ix] W fun e w' => e = .returned (.tuple #[.agg (ints .u8 64 (Dl m R ix)).toArray, .int .i64 (Dk m R ix), .int .i64 (Df m R ix)]) ∧ Below W.heap.size W w' := fun hm W => refDecode10_any m hm R hR ix W
  have ea := eqlA10 (Dl m R ix) (dl_byts m R ix)
  have ev := eqlV10 (Dk m R ix) (Df m R ix)
  obtain ⟨F, hF⟩ : ∃ F, Dl m R ix = F := ⟨_, rfl⟩
  obtain ⟨x, hx⟩ : ∃ x, Dk m R ix = x := ⟨_, rfl⟩
  obtain ⟨y, hy⟩ : ∃ y, Df m R ix = y := ⟨_, rfl⟩
  simp only [hF, hx, hy] at cD cR ea ev
  obtain ⟨A1, hA1⟩ : ∃ A, ints .u8 72 R = A := ⟨_, rfl⟩
  have iA1 : (Tryz.prog.info? 27).map (·.size) = some A1.length := by rw [← hA1, ints_len]; exact infoR
  have jA1 : (Tryz.prog.info? 27).map (·.size) = some A1.toArray.size := by simpa using iA1
  have oA1 : A1.toArray.all (·.oneCell') = true := by rw [← hA1]; exact ints_one .u8 72 _
  obtain ⟨A0, hA0⟩ : ∃ A, ints .u8 64 F = A := ⟨_, rfl⟩
  have iA0 : (Tryz.prog.info? 23).map (·.size) = some A0.length := by rw [← hA0, ints_len]; exact infoL
  have jA0 : (Tryz.prog.info? 23).map (·.size) = some A0.toArray.size := by simpa using iA0
  have oA0 : A0.toArray.all (·.oneCell') = true := by rw [← hA0]; exact ints_one .u8 64 _
  obtain ⟨AV, hAV⟩ : ∃ A, vd2 x y = A := ⟨_, rfl⟩
  have iAV : (Tryz.prog.info? 30).map (·.size) = some AV.length := by rw [← hAV]; exact info10v x y
  have jAV : (Tryz.prog.info? 30).map (·.size) = some AV.toArray.size := by simpa using iAV
  have oAV : AV.toArray.all (·.oneCell') = true := by rw [← hAV]; exact ints_one .i64 2 _
  have kA0 : (Tryz.prog.info? 22).map (·.size) = some A0.length := by rw [← hA0, ints_len]; exact infoA10
  have lA0 : (Tryz.prog.info? 22).map (·.size) = some A0.toArray.size := by simpa using kA0
  simp only [hA1, hA0, hAV] at cD cR ea ev
  rw [hA1]
  have CD : Hid (∀ (c h r f : Nat) (W : World), CcAt W c h r f → TabW W → Calls Tryz.prog 7 #[.pointer (some ⟨c, 0, none⟩), .int .i64 m, .agg A1.toArray, .int .i64 ix] W fun e w' => e = .returned (.tuple #[.agg A0.toArray, .agg AV.toArray]) ∧ Below W.heap.size W w') := cD
  have CR : Hid ((m = 1 ∨ m = 2) → ∀ W : World, Calls Tryz.prog 11 #[.int .i64 m, .agg A1.toArray, .int .i64 ix] W fun e w' => e = .returned (.tuple #[.agg A0.toArray, .int .i64 x, .int .i64 y]) ∧ Below W.heap.size W w') := cR
  have HA : Hid (ints .u8 64 F = A0 ∧ ints .u8 72 R = A1 ∧ vd2 x y = AV) := ⟨hA0, hA1, hAV⟩
  clear cD cR hT hZR hZL hF hx hy
  go_enter Tryz.func4, Tryz.ntmps4
  go_wp2_with fail
  obtain ⟨V, hV⟩ : ∃ V, (w.alloc (.cells A1.toArray 27)) = V := ⟨_, rfl⟩
  obtain ⟨B, hB⟩ : ∃ B, w.heap.size = B := ⟨_, rfl⟩
  have HV : Below w.heap.size w V ∧ ∀ p ∈ [(B, A1)], At9 V p.1 p.2 := by
    have h0 := (Bk.new .u8 w 72 R 27).at9
    rw [hA1] at h0
    have g0 := h0
    rw [hV] at g0
    rw [hB] at g0
    refine ⟨by rw [← hV]; exact ((Below.refl _ w).alloc (by simp <;> omega) _), fun p hp => ?_⟩
    simp only [List.mem_cons, List.not_mem_nil, or_false] at hp
    subst hp
    · exact g0
  have HTV : Hid (TabW V) := HT.out.below HV.1 HT.out.lt
  rw [hV, hB]
  refine (coder_any V HTV.out).mono ?_
  rintro e V1 ⟨c, h, r, f, rfl, HC⟩
  have HS : Hid (LwS c h r f [(B, A1)] w V1) := LwS.begin HC HV.1 HV.2
  clear HC HV hV HTV HT V
  clear hA0 hA1 hAV
  by_cases hm : m = 1 ∨ m = 2
  · have hd : decide (m = 1 ∨ m = 2) = true := by simpa using hm
    rw [hd] at cM
    have CR2 : Hid (∀ W : World, Calls Tryz.prog 11 #[.int .i64 m, .agg A1.toArray, .int .i64 ix] W fun e w' => e = .returned (.tuple #[.agg A0.toArray, .int .i64 x, .int .i64 y]) ∧ Below W.heap.size W w') := CR.out hm
    clear hd hm CR
    have r0 := (HS.out.rs (B, A1) (by simp)).r
    go_upto_region 6 with (go_at_call 8; refine (cM.out _).mono ?_; rintro e w' ⟨rfl, hw2⟩; rw [hw2]; clear hw2 w')
    go_wp2_with (refine wpList_load_mid rfl 27 _ rfl (B) 0 rfl A1 _ r0 Tryz.underlying27 rfl iA1 ?_)
    refine (CD.out c h r f _ HS.out.cc HS.out.tab).mono ?_
    rintro e V5 ⟨rfl, b5⟩
    replace HS : Hid (LwS c h r f [(B, A1)] w V5) := HS.out.next b5
    have L2 := HS.out.lay2 F x y 23 30 HZ.out.2 HA.out.1 HA.out.2.2
    have t1 := L2.1
    have t2 := L2.2.1
    have HS3 : Hid (LwS c h r f ((V5.heap.size + 1, AV) :: (V5.heap.size, A0) :: [(B, A1)]) w ((((V5.alloc (.cells ZL 23)).alloc (.cells #[.int .i64 0, .int .i64 0] 30)).setCells V5.heap.size 0 A0).setCells (V5.heap.size + 1) 0 AV)) := L2.2.2.1
    clear L2 b5 CD r0 HS
    go_upto_region 7 with (first | refine wpList_store_mid rfl 23 _ _ rfl V5.heap.size 0 A0.toArray rfl rfl t1 jA0 oA0 ?_ | refine wpList_store_mid rfl 30 _ _ rfl (V5.heap.size + 1) 0 AV.toArray rfl rfl t2 jAV oAV ?_)
    obtain ⟨P, hP⟩ : ∃ N, V5.heap.size = N := ⟨_, rfl⟩
    obtain ⟨V6, hV6⟩ : ∃ V6, (((V5.alloc (.cells ZL 23)).alloc (.cells #[.int .i64 0, .int .i64 0] 30)).setCells V5.heap.size 0 A0).setCells (V5.heap.size + 1) 0 AV = V6 := ⟨_, rfl⟩
    rw [hV6, hP] at HS3
    rw [hV6, hP]
    clear hV6 hP t1 t2 V5
    have r0 := (HS3.out.rs (B, A1) (by simp)).r
    go_wp2_with (refine wpList_load_mid rfl 27 _ rfl (B) 0 rfl A1 _ r0 Tryz.underlying27 rfl iA1 ?_)
    refine (CR2.out _).mono ?_
    rintro e V7 ⟨rfl, b7⟩
    replace HS3 : Hid (LwS c h r f ((P + 1, AV) :: (P, A0) :: [(B, A1)]) w V7) := HS3.out.next b7
    have L3 := HS3.out.lay .u8 64 F 22 HZ.out.2 HA.out.1
    have t1 := L3.1
    have HS4 : Hid (LwS c h r f ((V7.heap.size, A0) :: (P + 1, AV) :: (P, A0) :: [(B, A1)]) w ((V7.alloc (.cells ZL 22)).setCells V7.heap.size 0 A0)) := L3.2
    clear L3 b7 CR2 r0 HS3
    go_upto_region 8 with (refine wpList_store_mid rfl 22 _ _ rfl V7.heap.size 0 A0.toArray rfl rfl t1 lA0 oA0 ?_)
    obtain ⟨Q, hQ⟩ : ∃ N, V7.heap.size = N := ⟨_, rfl⟩
    obtain ⟨V8, hV8⟩ : ∃ V, (V7.alloc (.cells ZL 22)).setCells V7.heap.size 0 A0 = V := ⟨_, rfl⟩
    rw [hQ] at HS4 hV8
    rw [hV8] at HS4
    try rw [hQ]
    rw [hV8]
    have q0 := (HS4.out.rs (P, A0) (by simp)).r
    have q1 := (HS4.out.rs (Q, A0) (by simp)).r
    have q2 := (HS4.out.rs (P + 1, AV) (by simp)).r
    have HB : Hid (Below w.heap.size w V8) := HS4.out.below
    clear hV8 hQ t1 V7 HS4
    obtain rfl : AV = [.int .i64 x, .int .i64 y] := by rw [← HA.out.2.2]; rfl
    have c0 : V8.cell? ⟨P + 1, 0, none⟩ = some (.int .i64 x) := q2 0 _ rfl
    have c1 : V8.cell? ⟨P + 1, 1, none⟩ = some (.int .i64 y) := q2 1 _ rfl
    have ev2 : ∀ w, (binOp .eql 30 (.agg #[.int .i64 x, .int .i64 y]) (.agg #[.int .i64 x, .int .i64 y])).run Tryz.prog w = .ok (.bool true) w := ev
    clear ev q2
    --TRACE
    go_wp2_with (first | refine wpList_load_mid rfl 23 _ rfl P 0 rfl A0 _ q0 Tryz.underlying23 rfl iA0 ?_ | refine wpList_load_mid rfl 22 _ rfl Q 0 rfl A0 _ q1 Tryz.underlying22 rfl kA0 ?_)
    go_ret
    exact ⟨rfl, by first | exact HB.out | (rw [← hB]; exact HB.out)⟩
  · have hd : decide (m = 1 ∨ m = 2) = false := by simpa using hm
    rw [hd] at cM
    have HB : Hid (Below w.heap.size w V1) := HS.out.below
    clear hd hm
    go_wp2_with (go_at_call 8; refine (cM.out _).mono ?_; rintro e w' ⟨rfl, hw2⟩; rw [hw2]; clear hw2 w')
    go_ret
    exact ⟨rfl, by first | exact HB.out | (rw [← hB]; exact HB.out)⟩
theorem codecDecodes_walk (a0 : Int) (a1 : Nat → Int) (a2 : Int) (_w0 : (Lit.int .i64 a0).wf = true) (w1 : ∀ i, i < 72 → (Lit.int .u8 (a1 i)).wf = true) (_w2 : (Lit.int .i64 a2).wf = true) (w : World) (hT : TabW w) :
    Calls Tryz.prog 4 #[.int .i64 a0, .agg (ints .u8 72 a1).toArray, .int .i64 a2] w fun e w' => e = .returned (.bool true) ∧ Below w.heap.size w w' :=
  codecDecodes_core a0 a1 (args_byts 72 a1 w1) a2 w hT
end Go.Proofs.YtoimbjbdkkohcaaGreatDoor
