/-
  CodecSame.
-/
import Derived.Test.YtdjknaafefnlcaaDoorCoW12m
import Derived.Test.YtdjknaafefnlcaaDoorCoM8m
import Derived.Test.YtdjknaafefnlcaaDoorM09
import Derived.Test.YtdjknaafefnlcaaDoorM10
namespace Go.Proofs.YtdjknaafefnlcaaDoor
open Go.RowKit Go.Shelf
open Po (El toE)
attribute [local go_sem] Oper.semAt_some

theorem encode10_enc (c h r f : Nat) (m : Int) (F : Nat → Int) (hF : Byts 64 F) (ix : Int) (p : Bool) (w : World) (hc : CcAt w c h r f) (hT : TabW w) :
    Calls Tryd.prog 11 #[.pointer (some ⟨c, 0, none⟩), .int .i64 m, .agg (ints .u8 64 F).toArray, .int .i64 ix, .bool p] w fun e w' => e = .returned (.agg (ints .u8 72 (E10 m F ix p)).toArray) ∧ Enc m F ix p (E10 m F ix p) ∧ Below w.heap.size w w' :=
  (encode10_any c h r f m F hF ix p w hc hT).mono fun e w' ⟨R, he, hE, hb⟩ => ⟨by rw [he, ints_congr .u8 72 R (E10 m F ix p) (Enc.same hE (E10_of hE))], E10_of hE, hb⟩

set_option maxRecDepth 100000 in
set_option maxHeartbeats 8000000 in
theorem codecSame_core (m : Int) (F G : Nat → Int) (hF : Byts 64 F) (hG : Byts 64 G) (hFG : F = G ∨ ∃ i, i < 64 ∧ F i ≠ G i) (ix : Int) (p q : Bool) (w : World) (hT : TabW w) :
    Calls Tryd.prog 7 #[.int .i64 m, .agg (ints .u8 64 F).toArray, .agg (ints .u8 64 G).toArray, .int .i64 ix, .bool p, .bool q] w fun e w' => e = .returned (.bool true) ∧ Below w.heap.size w w' := by
  have hz := zeroR
  have hz2 := zeroL10
  have hz3 := zero10
  have gd := gdR
  have gdl := gdL10
  obtain ⟨ZR, hZR⟩ : ∃ A, (ints .u8 72 fun _ => 0).toArray = A := ⟨_, rfl⟩
  obtain ⟨ZL, hZL⟩ : ∃ A, (ints .u8 64 fun _ => 0).toArray = A := ⟨_, rfl⟩
  rw [hZR] at hz
  rw [hZL] at hz2
  have HZ : Hid ((ints .u8 72 fun _ => 0).toArray = ZR ∧ (ints .u8 64 fun _ => 0).toArray = ZL) := ⟨hZR, hZL⟩
  have HT : Hid (TabW w) := hT
  have cM : Hid (∀ W : World, Calls Tryd.prog 10 #[.int .i64 m] W fun e w' => e = .returned (.bool (decide (m = 1 ∨ m = 2))) ∧ w' = W) := mode10_any m
  have eL := fun bb hbb => eqlL2 F G hF hG bb hbb
  obtain ⟨X1, hX1⟩ : ∃ X, E10 m F ix p = X := ⟨_, rfl⟩
  obtain ⟨X2, hX2⟩ : ∃ X, E10 m G ix q = X := ⟨_, rfl⟩
  have x1 : Byts 72 X1 := by rw [← hX1]; exact e10_byts m F ix p
  have x2 : Byts 72 X2 := by rw [← hX2]; exact e10_byts m G ix q
  have eR := fun bb hbb => eqlR X1 X2 x1 x2 bb hbb
  have cE1 : ∀ (c h r f : Nat) (W : World), CcAt W c h r f → TabW W → Calls Tryd.prog 11 #[.pointer (some ⟨c, 0, none⟩), .int .i64 m, .agg (ints .u8 64 F).toArray, .int .i64 ix, .bool p] W fun e w' => e = .returned (.agg (ints .u8 72 X1).toArray) ∧ Enc m F ix p X1 ∧ Below W.heap.size W w' := fun c h r f W H HT => by
    have := encode10_enc c h r f m F hF ix p W H HT
    rw [hX1] at this; exact this
  have cE2 : ∀ (c h r f : Nat) (W : World), CcAt W c h r f → TabW W → Calls Tryd.prog 11 #[.pointer (some ⟨c, 0, none⟩), .int .i64 m, .agg (ints .u8 64 G).toArray, .int .i64 ix, .bool q] W fun e w' => e = .returned (.agg (ints .u8 72 X2).toArray) ∧ Enc m G ix q X2 ∧ Below W.heap.size W w' := fun c h r f W H HT => by
    have := encode10_enc c h r f m G hG ix q W H HT
    rw [hX2] at this; exact this
  have hxs : F = G → p = q → X1 = X2 := fun h1 h2 => by rw [← hX1, ← hX2, h1, h2]
  obtain ⟨A0, hA0⟩ : ∃ A, ints .u8 64 F = A := ⟨_, rfl⟩
  have iA0 : (Tryd.prog.info? 23).map (·.size) = some A0.length := by rw [← hA0, ints_len]; exact infoL
  have jA0 : (Tryd.prog.info? 23).map (·.size) = some A0.toArray.size := by simpa using iA0
  have oA0 : A0.toArray.all (·.oneCell') = true := by rw [← hA0]; exact ints_one .u8 64 _
  obtain ⟨A1, hA1⟩ : ∃ A, ints .u8 64 G = A := ⟨_, rfl⟩
  have iA1 : (Tryd.prog.info? 23).map (·.size) = some A1.length := by rw [← hA1, ints_len]; exact infoL
  have jA1 : (Tryd.prog.info? 23).map (·.size) = some A1.toArray.size := by simpa using iA1
  have oA1 : A1.toArray.all (·.oneCell') = true := by rw [← hA1]; exact ints_one .u8 64 _
  obtain ⟨E1, hE1⟩ : ∃ A, ints .u8 72 X1 = A := ⟨_, rfl⟩
  have iE1 : (Tryd.prog.info? 25).map (·.size) = some E1.length := by rw [← hE1, ints_len]; exact infoR
  have jE1 : (Tryd.prog.info? 25).map (·.size) = some E1.toArray.size := by simpa using iE1
  have oE1 : E1.toArray.all (·.oneCell') = true := by rw [← hE1]; exact ints_one .u8 72 _
  obtain ⟨E2, hE2⟩ : ∃ A, ints .u8 72 X2 = A := ⟨_, rfl⟩
  have iE2 : (Tryd.prog.info? 25).map (·.size) = some E2.length := by rw [← hE2, ints_len]; exact infoR
  have jE2 : (Tryd.prog.info? 25).map (·.size) = some E2.toArray.size := by simpa using iE2
  have oE2 : E2.toArray.all (·.oneCell') = true := by rw [← hE2]; exact ints_one .u8 72 _
  simp only [hA0, hA1] at eL
  simp only [hE1, hE2] at eR
  simp only [hA0, hE1] at cE1
  simp only [hA1, hE2] at cE2
  rw [hA0, hA1]
  have CE1 : Hid (∀ (c h r f : Nat) (W : World), CcAt W c h r f → TabW W → Calls Tryd.prog 11 #[.pointer (some ⟨c, 0, none⟩), .int .i64 m, .agg A0.toArray, .int .i64 ix, .bool p] W fun e w' => e = .returned (.agg E1.toArray) ∧ Enc m F ix p X1 ∧ Below W.heap.size W w') := cE1
  have CE2 : Hid (∀ (c h r f : Nat) (W : World), CcAt W c h r f → TabW W → Calls Tryd.prog 11 #[.pointer (some ⟨c, 0, none⟩), .int .i64 m, .agg A1.toArray, .int .i64 ix, .bool q] W fun e w' => e = .returned (.agg E2.toArray) ∧ Enc m G ix q X2 ∧ Below W.heap.size W w') := cE2
  have EL : Hid (∀ bb : Bool, (bb = true ↔ ∀ i, i < 64 → F i = G i) → ∀ w, (binOp .eql 23 (.agg A0.toArray) (.agg A1.toArray)).run Tryd.prog w = .ok (.bool bb) w) := eL
  have ER : Hid (∀ bb : Bool, (bb = true ↔ ∀ i, i < 72 → X1 i = X2 i) → ∀ w, (binOp .eql 25 (.agg E1.toArray) (.agg E2.toArray)).run Tryd.prog w = .ok (.bool bb) w) := eR
  have HE : Hid (ints .u8 72 X1 = E1 ∧ ints .u8 72 X2 = E2) := ⟨hE1, hE2⟩
  have HXS : Hid (F = G → p = q → X1 = X2) := hxs
  have HX : Hid (E10 m F ix p = X1 ∧ E10 m G ix q = X2) := ⟨hX1, hX2⟩
  have HF : Hid (Byts 64 F ∧ Byts 64 G ∧ Byts 72 X1 ∧ Byts 72 X2) := ⟨hF, hG, x1, x2⟩
  have HFG : Hid (F = G ∨ ∃ i, i < 64 ∧ F i ≠ G i) := hFG
  clear cE1 cE2 eL eR hE1 hE2 hxs hX1 hX2 hF hG x1 x2 hFG hT hZR hZL hz2 hz3
  go_enter Tryd.func7, Tryd.ntmps7
  go_wp2_with fail
  obtain ⟨V, hV⟩ : ∃ V, ((w.alloc (.cells A0.toArray 23)).alloc (.cells A1.toArray 23)) = V := ⟨_, rfl⟩
  obtain ⟨B, hB⟩ : ∃ B, w.heap.size = B := ⟨_, rfl⟩
  have HV : Below w.heap.size w V ∧ ∀ p ∈ [(B, A0), (B + 1, A1)], At9 V p.1 p.2 := by
    have h0 := (Bk.new .u8 w 64 F 23).at9
    have h1 := (Bk.new .u8 (w.alloc (.cells A0.toArray 23)) 64 G 23).at9
    simp only [World.size_alloc] at h0 h1
    rw [hA0] at h0
    rw [hA1] at h1
    have g0 := (h0.alloc (.cells A1.toArray 23))
    have g1 := h1
    rw [hV] at g0 g1
    rw [hB] at g0 g1
    refine ⟨by rw [← hV]; exact (((Below.refl _ w).alloc (by simp <;> omega) _).alloc (by simp <;> omega) _), fun p hp => ?_⟩
    simp only [List.mem_cons, List.not_mem_nil, or_false] at hp
    rcases hp with rfl | rfl
    · exact g0
    · exact g1
  have HTV : Hid (TabW V) := HT.out.below HV.1 HT.out.lt
  rw [hV, hB]
  refine (coder_any V HTV.out).mono ?_
  rintro e V1 ⟨c, h, r, f, rfl, HC⟩
  have HS : Hid (LwS c h r f [(B, A0), (B + 1, A1)] w V1) := LwS.begin HC HV.1 HV.2
  clear HC HV hV HTV HT V
  clear hA0 hA1
  by_cases hm : m = 1 ∨ m = 2
  · have hd : decide (m = 1 ∨ m = 2) = true := by simpa using hm
    rw [hd] at cM
    obtain ⟨n, k, hmw⟩ := mw_any m hm
    have HM : Hid (Mw m n k) := hmw
    clear hd hmw
    go_upto_region 6 with (go_at_call 10; refine (cM.out _).mono ?_; rintro e w' ⟨rfl, hw2⟩; rw [hw2]; clear hw2 w')
    obtain ⟨V2, hV2⟩ : ∃ V, V1 = V := ⟨_, rfl⟩
    rw [hV2] at HS ⊢
    clear hV2 V1
    --TRACE
    refine region_ends (by kernel_rfl) (fun W => Below V2.heap.size V2 W) (fun a' W' => ∃ N1 N2, a' = ({ tmps := #[.int .i64 m, .agg A0.toArray, .agg A1.toArray, .int .i64 ix, .bool p, .bool q, undef, .pointer (some ⟨B, 0, none⟩), .pointer (some ⟨B + 1, 0, none⟩), undef, undef, undef, .bool false, .pointer (some ⟨c, 0, none⟩), .pointer (some ⟨N1, 0, none⟩), .pointer (some ⟨N2, 0, none⟩), undef, .pointer (some ⟨c, 0, none⟩), .pointer (some ⟨c, 0, none⟩), .bool false, .int .i64 m, .bool true, .bool false, .pointer (some ⟨c, 0, none⟩), .int .i64 m, .agg A0.toArray, .int .i64 ix, .bool p, .agg E1.toArray, .pointer (some ⟨c, 0, none⟩), .int .i64 m, .agg A1.toArray, .int .i64 ix, .bool q, .agg E2.toArray, undef, undef, undef, undef, undef, undef, undef, undef, undef, undef, undef, undef, undef, undef, undef, undef, undef, undef, undef, undef, undef, undef, undef, undef], defers := [] } : Act) ∧ Bk .u8 W' N1 72 X1 ∧ Bk .u8 W' N2 72 X2 ∧ Below V2.heap.size V2 W' ∧ Enc m F ix p X1 ∧ Enc m G ix q X2) (below_drew1 V2) (fun hH => ?reg) (fun a' V3 hr => ?aft)
    case reg =>
      refine take_pure 0 (v := .pointer (some ⟨c, 0, none⟩)) rfl (by kernel_rfl) rfl (fun w' hw => by simp [execOp, go_sem]) hH ?_
      show wpAnyH _ _ _ _ _ _ _ ({ tmps := #[.int .i64 m, .agg A0.toArray, .agg A1.toArray, .int .i64 ix, .bool p, .bool q, undef, .pointer (some ⟨B, 0, none⟩), .pointer (some ⟨B + 1, 0, none⟩), undef, undef, undef, .bool false, .pointer (some ⟨c, 0, none⟩), undef, undef, undef, .pointer (some ⟨c, 0, none⟩), .pointer (some ⟨c, 0, none⟩), .bool false, .int .i64 m, .bool true, .bool false, .pointer (some ⟨c, 0, none⟩), undef, undef, undef, undef, undef, undef, undef, undef, undef, undef, undef, undef, undef, undef, undef, undef, undef, undef, undef, undef, undef, undef, undef, undef, undef, undef, undef, undef, undef, undef, undef, undef, undef, undef, undef], defers := [] } : Act) _
      refine take_pure 1 (v := .int .i64 m) rfl (by kernel_rfl) rfl (fun w' hw => by simp [execOp, go_sem]) hH ?_
      show wpAnyH _ _ _ _ _ _ _ ({ tmps := #[.int .i64 m, .agg A0.toArray, .agg A1.toArray, .int .i64 ix, .bool p, .bool q, undef, .pointer (some ⟨B, 0, none⟩), .pointer (some ⟨B + 1, 0, none⟩), undef, undef, undef, .bool false, .pointer (some ⟨c, 0, none⟩), undef, undef, undef, .pointer (some ⟨c, 0, none⟩), .pointer (some ⟨c, 0, none⟩), .bool false, .int .i64 m, .bool true, .bool false, .pointer (some ⟨c, 0, none⟩), .int .i64 m, undef, undef, undef, undef, undef, undef, undef, undef, undef, undef, undef, undef, undef, undef, undef, undef, undef, undef, undef, undef, undef, undef, undef, undef, undef, undef, undef, undef, undef, undef, undef, undef, undef, undef], defers := [] } : Act) _
      refine take_if 2 (v := .agg A0.toArray) rfl (by kernel_rfl) (yieldsIf_load_mid (by rfl) _ _ rfl B 0 rfl A0 _ (fun w' hw => ((HS.out.next hw).rs (B, A0) (by simp)).r) Tryd.underlying23 rfl iA0) hH ?_
      show wpAnyH _ _ _ _ _ _ _ ({ tmps := #[.int .i64 m, .agg A0.toArray, .agg A1.toArray, .int .i64 ix, .bool p, .bool q, undef, .pointer (some ⟨B, 0, none⟩), .pointer (some ⟨B + 1, 0, none⟩), undef, undef, undef, .bool false, .pointer (some ⟨c, 0, none⟩), undef, undef, undef, .pointer (some ⟨c, 0, none⟩), .pointer (some ⟨c, 0, none⟩), .bool false, .int .i64 m, .bool true, .bool false, .pointer (some ⟨c, 0, none⟩), .int .i64 m, .agg A0.toArray, undef, undef, undef, undef, undef, undef, undef, undef, undef, undef, undef, undef, undef, undef, undef, undef, undef, undef, undef, undef, undef, undef, undef, undef, undef, undef, undef, undef, undef, undef, undef, undef, undef], defers := [] } : Act) _
      refine take_pure 3 (v := .int .i64 ix) rfl (by kernel_rfl) rfl (fun w' hw => by simp [execOp, go_sem]) hH ?_
      show wpAnyH _ _ _ _ _ _ _ ({ tmps := #[.int .i64 m, .agg A0.toArray, .agg A1.toArray, .int .i64 ix, .bool p, .bool q, undef, .pointer (some ⟨B, 0, none⟩), .pointer (some ⟨B + 1, 0, none⟩), undef, undef, undef, .bool false, .pointer (some ⟨c, 0, none⟩), undef, undef, undef, .pointer (some ⟨c, 0, none⟩), .pointer (some ⟨c, 0, none⟩), .bool false, .int .i64 m, .bool true, .bool false, .pointer (some ⟨c, 0, none⟩), .int .i64 m, .agg A0.toArray, .int .i64 ix, undef, undef, undef, undef, undef, undef, undef, undef, undef, undef, undef, undef, undef, undef, undef, undef, undef, undef, undef, undef, undef, undef, undef, undef, undef, undef, undef, undef, undef, undef, undef, undef], defers := [] } : Act) _
      refine take_pure 4 (v := .bool p) rfl (by kernel_rfl) rfl (fun w' hw => by simp [execOp, go_sem]) hH ?_
      show wpAnyH _ _ _ _ _ _ _ ({ tmps := #[.int .i64 m, .agg A0.toArray, .agg A1.toArray, .int .i64 ix, .bool p, .bool q, undef, .pointer (some ⟨B, 0, none⟩), .pointer (some ⟨B + 1, 0, none⟩), undef, undef, undef, .bool false, .pointer (some ⟨c, 0, none⟩), undef, undef, undef, .pointer (some ⟨c, 0, none⟩), .pointer (some ⟨c, 0, none⟩), .bool false, .int .i64 m, .bool true, .bool false, .pointer (some ⟨c, 0, none⟩), .int .i64 m, .agg A0.toArray, .int .i64 ix, .bool p, undef, undef, undef, undef, undef, undef, undef, undef, undef, undef, undef, undef, undef, undef, undef, undef, undef, undef, undef, undef, undef, undef, undef, undef, undef, undef, undef, undef, undef, undef, undef], defers := [] } : Act) _
      refine take_pure 6 (v := .pointer (some ⟨c, 0, none⟩)) rfl (by kernel_rfl) rfl (fun w' hw => by simp [execOp, go_sem]) hH ?_
      show wpAnyH _ _ _ _ _ _ _ ({ tmps := #[.int .i64 m, .agg A0.toArray, .agg A1.toArray, .int .i64 ix, .bool p, .bool q, undef, .pointer (some ⟨B, 0, none⟩), .pointer (some ⟨B + 1, 0, none⟩), undef, undef, undef, .bool false, .pointer (some ⟨c, 0, none⟩), undef, undef, undef, .pointer (some ⟨c, 0, none⟩), .pointer (some ⟨c, 0, none⟩), .bool false, .int .i64 m, .bool true, .bool false, .pointer (some ⟨c, 0, none⟩), .int .i64 m, .agg A0.toArray, .int .i64 ix, .bool p, undef, .pointer (some ⟨c, 0, none⟩), undef, undef, undef, undef, undef, undef, undef, undef, undef, undef, undef, undef, undef, undef, undef, undef, undef, undef, undef, undef, undef, undef, undef, undef, undef, undef, undef, undef, undef], defers := [] } : Act) _
      refine take_pure 7 (v := .int .i64 m) rfl (by kernel_rfl) rfl (fun w' hw => by simp [execOp, go_sem]) hH ?_
      show wpAnyH _ _ _ _ _ _ _ ({ tmps := #[.int .i64 m, .agg A0.toArray, .agg A1.toArray, .int .i64 ix, .bool p, .bool q, undef, .pointer (some ⟨B, 0, none⟩), .pointer (some ⟨B + 1, 0, none⟩), undef, undef, undef, .bool false, .pointer (some ⟨c, 0, none⟩), undef, undef, undef, .pointer (some ⟨c, 0, none⟩), .pointer (some ⟨c, 0, none⟩), .bool false, .int .i64 m, .bool true, .bool false, .pointer (some ⟨c, 0, none⟩), .int .i64 m, .agg A0.toArray, .int .i64 ix, .bool p, undef, .pointer (some ⟨c, 0, none⟩), .int .i64 m, undef, undef, undef, undef, undef, undef, undef, undef, undef, undef, undef, undef, undef, undef, undef, undef, undef, undef, undef, undef, undef, undef, undef, undef, undef, undef, undef, undef], defers := [] } : Act) _
      refine take_if 8 (v := .agg A1.toArray) rfl (by kernel_rfl) (yieldsIf_load_mid (by rfl) _ _ rfl (B + 1) 0 rfl A1 _ (fun w' hw => ((HS.out.next hw).rs (B + 1, A1) (by simp)).r) Tryd.underlying23 rfl iA1) hH ?_
      show wpAnyH _ _ _ _ _ _ _ ({ tmps := #[.int .i64 m, .agg A0.toArray, .agg A1.toArray, .int .i64 ix, .bool p, .bool q, undef, .pointer (some ⟨B, 0, none⟩), .pointer (some ⟨B + 1, 0, none⟩), undef, undef, undef, .bool false, .pointer (some ⟨c, 0, none⟩), undef, undef, undef, .pointer (some ⟨c, 0, none⟩), .pointer (some ⟨c, 0, none⟩), .bool false, .int .i64 m, .bool true, .bool false, .pointer (some ⟨c, 0, none⟩), .int .i64 m, .agg A0.toArray, .int .i64 ix, .bool p, undef, .pointer (some ⟨c, 0, none⟩), .int .i64 m, .agg A1.toArray, undef, undef, undef, undef, undef, undef, undef, undef, undef, undef, undef, undef, undef, undef, undef, undef, undef, undef, undef, undef, undef, undef, undef, undef, undef, undef, undef], defers := [] } : Act) _
      refine take_pure 9 (v := .int .i64 ix) rfl (by kernel_rfl) rfl (fun w' hw => by simp [execOp, go_sem]) hH ?_
      show wpAnyH _ _ _ _ _ _ _ ({ tmps := #[.int .i64 m, .agg A0.toArray, .agg A1.toArray, .int .i64 ix, .bool p, .bool q, undef, .pointer (some ⟨B, 0, none⟩), .pointer (some ⟨B + 1, 0, none⟩), undef, undef, undef, .bool false, .pointer (some ⟨c, 0, none⟩), undef, undef, undef, .pointer (some ⟨c, 0, none⟩), .pointer (some ⟨c, 0, none⟩), .bool false, .int .i64 m, .bool true, .bool false, .pointer (some ⟨c, 0, none⟩), .int .i64 m, .agg A0.toArray, .int .i64 ix, .bool p, undef, .pointer (some ⟨c, 0, none⟩), .int .i64 m, .agg A1.toArray, .int .i64 ix, undef, undef, undef, undef, undef, undef, undef, undef, undef, undef, undef, undef, undef, undef, undef, undef, undef, undef, undef, undef, undef, undef, undef, undef, undef, undef], defers := [] } : Act) _
      refine take_pure 10 (v := .bool q) rfl (by kernel_rfl) rfl (fun w' hw => by simp [execOp, go_sem]) hH ?_
      show wpAnyH _ _ _ _ _ _ _ ({ tmps := #[.int .i64 m, .agg A0.toArray, .agg A1.toArray, .int .i64 ix, .bool p, .bool q, undef, .pointer (some ⟨B, 0, none⟩), .pointer (some ⟨B + 1, 0, none⟩), undef, undef, undef, .bool false, .pointer (some ⟨c, 0, none⟩), undef, undef, undef, .pointer (some ⟨c, 0, none⟩), .pointer (some ⟨c, 0, none⟩), .bool false, .int .i64 m, .bool true, .bool false, .pointer (some ⟨c, 0, none⟩), .int .i64 m, .agg A0.toArray, .int .i64 ix, .bool p, undef, .pointer (some ⟨c, 0, none⟩), .int .i64 m, .agg A1.toArray, .int .i64 ix, .bool q, undef, undef, undef, undef, undef, undef, undef, undef, undef, undef, undef, undef, undef, undef, undef, undef, undef, undef, undef, undef, undef, undef, undef, undef, undef], defers := [] } : Act) _
      refine take_three 5 12 13 rfl rfl rfl rfl rfl rfl (by kernel_rfl) ?_ ?_ ?_
      · refine wp_contract 11 [.tmp 23, .tmp 24, .tmp 25, .tmp 26, .tmp 27] _ rfl (enters_of Tryd.func11 (by kernel_rfl) rfl) [.pointer (some ⟨c, 0, none⟩), .int .i64 m, .agg A0.toArray, .int .i64 ix, .bool p] rfl (CE1.out c h r f _ (HS.out.next hH).cc (HS.out.next hH).tab) ?_
        rintro e X101 ⟨rfl, hY1, b5⟩
        refine ⟨_, rfl, hH.trans (b5.mono hH.size), fun hH => ?_⟩
        clear b5
        show wpAnyH _ _ _ _ _ _ _ ({ tmps := #[.int .i64 m, .agg A0.toArray, .agg A1.toArray, .int .i64 ix, .bool p, .bool q, undef, .pointer (some ⟨B, 0, none⟩), .pointer (some ⟨B + 1, 0, none⟩), undef, undef, undef, .bool false, .pointer (some ⟨c, 0, none⟩), undef, undef, undef, .pointer (some ⟨c, 0, none⟩), .pointer (some ⟨c, 0, none⟩), .bool false, .int .i64 m, .bool true, .bool false, .pointer (some ⟨c, 0, none⟩), .int .i64 m, .agg A0.toArray, .int .i64 ix, .bool p, .agg E1.toArray, .pointer (some ⟨c, 0, none⟩), .int .i64 m, .agg A1.toArray, .int .i64 ix, .bool q, undef, undef, undef, undef, undef, undef, undef, undef, undef, undef, undef, undef, undef, undef, undef, undef, undef, undef, undef, undef, undef, undef, undef, undef, undef], defers := [] } : Act) _
        refine take_three 11 12 13 rfl rfl rfl rfl rfl rfl (by kernel_rfl) ?_ ?_ ?_
        · refine wp_contract 11 [.tmp 29, .tmp 30, .tmp 31, .tmp 32, .tmp 33] _ rfl (enters_of Tryd.func11 (by kernel_rfl) rfl) [.pointer (some ⟨c, 0, none⟩), .int .i64 m, .agg A1.toArray, .int .i64 ix, .bool q] rfl (CE2.out c h r f _ (HS.out.next hH).cc (HS.out.next hH).tab) ?_
          rintro e X102 ⟨rfl, hY2, b5⟩
          refine ⟨_, rfl, hH.trans (b5.mono hH.size), fun hH => ?_⟩
          clear b5
          show wpAnyH _ _ _ _ _ _ _ ({ tmps := #[.int .i64 m, .agg A0.toArray, .agg A1.toArray, .int .i64 ix, .bool p, .bool q, undef, .pointer (some ⟨B, 0, none⟩), .pointer (some ⟨B + 1, 0, none⟩), undef, undef, undef, .bool false, .pointer (some ⟨c, 0, none⟩), undef, undef, undef, .pointer (some ⟨c, 0, none⟩), .pointer (some ⟨c, 0, none⟩), .bool false, .int .i64 m, .bool true, .bool false, .pointer (some ⟨c, 0, none⟩), .int .i64 m, .agg A0.toArray, .int .i64 ix, .bool p, .agg E1.toArray, .pointer (some ⟨c, 0, none⟩), .int .i64 m, .agg A1.toArray, .int .i64 ix, .bool q, .agg E2.toArray, undef, undef, undef, undef, undef, undef, undef, undef, undef, undef, undef, undef, undef, undef, undef, undef, undef, undef, undef, undef, undef, undef, undef, undef], defers := [] } : Act) _
          refine take_two 12 13 rfl rfl rfl rfl (by kernel_rfl) ?_ ?_
          · refine wp_alloc_agg 25 rfl _ hz ?_
            obtain ⟨N1, hNe⟩ : ∃ N, (X102).heap.size = N := ⟨_, rfl⟩
            obtain ⟨X103, hX103⟩ : ∃ V, (X102).alloc (.cells ZR 25) = V := ⟨_, rfl⟩
            have b5 : Below (X102).heap.size (X102) X103 := by rw [← hX103]; exact (Below.refl _ _).alloc (Nat.le_refl _) _
            have lN1 : V2.heap.size ≤ N1 := by rw [← hNe]; exact hH.size
            have HA12 : Hid (Bk .u8 X103 N1 72 (fun _ => 0)) := by rw [← hX103, ← hNe, ← HZ.out.1]; exact Bk.new .u8 _ 72 (fun _ => 0) _
            rw [hNe, hX103]
            refine ⟨hH.trans (b5.mono hH.size), fun hH => ?_⟩
            clear b5 hNe hX103
            show wpAnyH _ _ _ _ _ _ _ ({ tmps := #[.int .i64 m, .agg A0.toArray, .agg A1.toArray, .int .i64 ix, .bool p, .bool q, undef, .pointer (some ⟨B, 0, none⟩), .pointer (some ⟨B + 1, 0, none⟩), undef, undef, undef, .bool false, .pointer (some ⟨c, 0, none⟩), .pointer (some ⟨N1, 0, none⟩), undef, undef, .pointer (some ⟨c, 0, none⟩), .pointer (some ⟨c, 0, none⟩), .bool false, .int .i64 m, .bool true, .bool false, .pointer (some ⟨c, 0, none⟩), .int .i64 m, .agg A0.toArray, .int .i64 ix, .bool p, .agg E1.toArray, .pointer (some ⟨c, 0, none⟩), .int .i64 m, .agg A1.toArray, .int .i64 ix, .bool q, .agg E2.toArray, undef, undef, undef, undef, undef, undef, undef, undef, undef, undef, undef, undef, undef, undef, undef, undef, undef, undef, undef, undef, undef, undef, undef, undef], defers := [] } : Act) _
            refine take_one 13 rfl rfl (by kernel_rfl) ?_
            refine wp_alloc_agg 25 rfl _ hz ?_
            obtain ⟨N2, hNe⟩ : ∃ N, (X103).heap.size = N := ⟨_, rfl⟩
            obtain ⟨X104, hX104⟩ : ∃ V, (X103).alloc (.cells ZR 25) = V := ⟨_, rfl⟩
            have b5 : Below (X103).heap.size (X103) X104 := by rw [← hX104]; exact (Below.refl _ _).alloc (Nat.le_refl _) _
            have n12 : N1 ≠ N2 := by have := HA12.out.lt; omega
            have lN2 : V2.heap.size ≤ N2 := by rw [← hNe]; exact hH.size
            replace HA12 : Hid (Bk .u8 X104 N1 72 (fun _ => 0)) := HA12.out.next b5
            have HA13 : Hid (Bk .u8 X104 N2 72 (fun _ => 0)) := by rw [← hX104, ← hNe, ← HZ.out.1]; exact Bk.new .u8 _ 72 (fun _ => 0) _
            rw [hNe, hX104]
            refine ⟨hH.trans (b5.mono hH.size), fun hH => ?_⟩
            clear b5 hNe hX104
            show wpAnyH _ _ _ _ _ _ _ ({ tmps := #[.int .i64 m, .agg A0.toArray, .agg A1.toArray, .int .i64 ix, .bool p, .bool q, undef, .pointer (some ⟨B, 0, none⟩), .pointer (some ⟨B + 1, 0, none⟩), undef, undef, undef, .bool false, .pointer (some ⟨c, 0, none⟩), .pointer (some ⟨N1, 0, none⟩), .pointer (some ⟨N2, 0, none⟩), undef, .pointer (some ⟨c, 0, none⟩), .pointer (some ⟨c, 0, none⟩), .bool false, .int .i64 m, .bool true, .bool false, .pointer (some ⟨c, 0, none⟩), .int .i64 m, .agg A0.toArray, .int .i64 ix, .bool p, .agg E1.toArray, .pointer (some ⟨c, 0, none⟩), .int .i64 m, .agg A1.toArray, .int .i64 ix, .bool q, .agg E2.toArray, undef, undef, undef, undef, undef, undef, undef, undef, undef, undef, undef, undef, undef, undef, undef, undef, undef, undef, undef, undef, undef, undef, undef, undef], defers := [] } : Act) _
            refine take_one 14 rfl rfl (by kernel_rfl) ?_
            refine wp_store_mid 25 _ _ rfl N1 0 E1.toArray rfl rfl (by rw [← HE.out.1]; exact HA12.out.there .u8 X1) jE1 oE1 ?_
            have hpN1 := HA12.out.put X1
            rw [show ints .u8 72 X1 = E1 from HE.out.1] at hpN1
            replace HA13 := HA13.out.putOther (c := N1) n12.symm 0 E1
            have HA132 : Hid (Bk .u8 _ N2 72 (fun _ => 0)) := HA13
            replace HA13 := HA132
            clear HA132
            refine ⟨belows_put lN1 _ 0 hH, fun hH => ?_⟩
            show wpAnyH _ _ _ _ _ _ _ ({ tmps := #[.int .i64 m, .agg A0.toArray, .agg A1.toArray, .int .i64 ix, .bool p, .bool q, undef, .pointer (some ⟨B, 0, none⟩), .pointer (some ⟨B + 1, 0, none⟩), undef, undef, undef, .bool false, .pointer (some ⟨c, 0, none⟩), .pointer (some ⟨N1, 0, none⟩), .pointer (some ⟨N2, 0, none⟩), undef, .pointer (some ⟨c, 0, none⟩), .pointer (some ⟨c, 0, none⟩), .bool false, .int .i64 m, .bool true, .bool false, .pointer (some ⟨c, 0, none⟩), .int .i64 m, .agg A0.toArray, .int .i64 ix, .bool p, .agg E1.toArray, .pointer (some ⟨c, 0, none⟩), .int .i64 m, .agg A1.toArray, .int .i64 ix, .bool q, .agg E2.toArray, undef, undef, undef, undef, undef, undef, undef, undef, undef, undef, undef, undef, undef, undef, undef, undef, undef, undef, undef, undef, undef, undef, undef, undef], defers := [] } : Act) _
            refine take_one 15 rfl rfl (by kernel_rfl) ?_
            refine wp_store_mid 25 _ _ rfl N2 0 E2.toArray rfl rfl (by rw [← HE.out.2]; exact HA13.out.there .u8 X2) jE2 oE2 ?_
            have hpN2 := HA13.out.put X2
            rw [show ints .u8 72 X2 = E2 from HE.out.2] at hpN2
            have hpN1 := hpN1.putOther (c := N2) n12 0 E2
            refine ⟨belows_put lN2 _ 0 hH, fun hH => ?_⟩
            show wpAnyH _ _ _ _ _ _ _ ({ tmps := #[.int .i64 m, .agg A0.toArray, .agg A1.toArray, .int .i64 ix, .bool p, .bool q, undef, .pointer (some ⟨B, 0, none⟩), .pointer (some ⟨B + 1, 0, none⟩), undef, undef, undef, .bool false, .pointer (some ⟨c, 0, none⟩), .pointer (some ⟨N1, 0, none⟩), .pointer (some ⟨N2, 0, none⟩), undef, .pointer (some ⟨c, 0, none⟩), .pointer (some ⟨c, 0, none⟩), .bool false, .int .i64 m, .bool true, .bool false, .pointer (some ⟨c, 0, none⟩), .int .i64 m, .agg A0.toArray, .int .i64 ix, .bool p, .agg E1.toArray, .pointer (some ⟨c, 0, none⟩), .int .i64 m, .agg A1.toArray, .int .i64 ix, .bool q, .agg E2.toArray, undef, undef, undef, undef, undef, undef, undef, undef, undef, undef, undef, undef, undef, undef, undef, undef, undef, undef, undef, undef, undef, undef, undef, undef], defers := [] } : Act) _
            exact wpAnyH_done (by kernel_rfl) ⟨N1, N2, rfl, hpN1, hpN2, hH, hY1, hY2⟩ _
          · refine wp_alloc_agg 25 rfl _ hz ?_
            obtain ⟨N2, hNe⟩ : ∃ N, (X102).heap.size = N := ⟨_, rfl⟩
            obtain ⟨X105, hX105⟩ : ∃ V, (X102).alloc (.cells ZR 25) = V := ⟨_, rfl⟩
            have b5 : Below (X102).heap.size (X102) X105 := by rw [← hX105]; exact (Below.refl _ _).alloc (Nat.le_refl _) _
            have lN2 : V2.heap.size ≤ N2 := by rw [← hNe]; exact hH.size
            have HA13 : Hid (Bk .u8 X105 N2 72 (fun _ => 0)) := by rw [← hX105, ← hNe, ← HZ.out.1]; exact Bk.new .u8 _ 72 (fun _ => 0) _
            rw [hNe, hX105]
            refine ⟨hH.trans (b5.mono hH.size), fun hH => ?_⟩
            clear b5 hNe hX105
            show wpAnyH _ _ _ _ _ _ _ ({ tmps := #[.int .i64 m, .agg A0.toArray, .agg A1.toArray, .int .i64 ix, .bool p, .bool q, undef, .pointer (some ⟨B, 0, none⟩), .pointer (some ⟨B + 1, 0, none⟩), undef, undef, undef, .bool false, .pointer (some ⟨c, 0, none⟩), undef, .pointer (some ⟨N2, 0, none⟩), undef, .pointer (some ⟨c, 0, none⟩), .pointer (some ⟨c, 0, none⟩), .bool false, .int .i64 m, .bool true, .bool false, .pointer (some ⟨c, 0, none⟩), .int .i64 m, .agg A0.toArray, .int .i64 ix, .bool p, .agg E1.toArray, .pointer (some ⟨c, 0, none⟩), .int .i64 m, .agg A1.toArray, .int .i64 ix, .bool q, .agg E2.toArray, undef, undef, undef, undef, undef, undef, undef, undef, undef, undef, undef, undef, undef, undef, undef, undef, undef, undef, undef, undef, undef, undef, undef, undef], defers := [] } : Act) _
            refine take_one 12 rfl rfl (by kernel_rfl) ?_
            refine wp_alloc_agg 25 rfl _ hz ?_
            obtain ⟨N1, hNe⟩ : ∃ N, (X105).heap.size = N := ⟨_, rfl⟩
            obtain ⟨X106, hX106⟩ : ∃ V, (X105).alloc (.cells ZR 25) = V := ⟨_, rfl⟩
            have b5 : Below (X105).heap.size (X105) X106 := by rw [← hX106]; exact (Below.refl _ _).alloc (Nat.le_refl _) _
            have n12 : N1 ≠ N2 := by have := HA13.out.lt; omega
            have lN1 : V2.heap.size ≤ N1 := by rw [← hNe]; exact hH.size
            replace HA13 : Hid (Bk .u8 X106 N2 72 (fun _ => 0)) := HA13.out.next b5
            have HA12 : Hid (Bk .u8 X106 N1 72 (fun _ => 0)) := by rw [← hX106, ← hNe, ← HZ.out.1]; exact Bk.new .u8 _ 72 (fun _ => 0) _
            rw [hNe, hX106]
            refine ⟨hH.trans (b5.mono hH.size), fun hH => ?_⟩
            clear b5 hNe hX106
            show wpAnyH _ _ _ _ _ _ _ ({ tmps := #[.int .i64 m, .agg A0.toArray, .agg A1.toArray, .int .i64 ix, .bool p, .bool q, undef, .pointer (some ⟨B, 0, none⟩), .pointer (some ⟨B + 1, 0, none⟩), undef, undef, undef, .bool false, .pointer (some ⟨c, 0, none⟩), .pointer (some ⟨N1, 0, none⟩), .pointer (some ⟨N2, 0, none⟩), undef, .pointer (some ⟨c, 0, none⟩), .pointer (some ⟨c, 0, none⟩), .bool false, .int .i64 m, .bool true, .bool false, .pointer (some ⟨c, 0, none⟩), .int .i64 m, .agg A0.toArray, .int .i64 ix, .bool p, .agg E1.toArray, .pointer (some ⟨c, 0, none⟩), .int .i64 m, .agg A1.toArray, .int .i64 ix, .bool q, .agg E2.toArray, undef, undef, undef, undef, undef, undef, undef, undef, undef, undef, undef, undef, undef, undef, undef, undef, undef, undef, undef, undef, undef, undef, undef, undef], defers := [] } : Act) _
            refine take_one 14 rfl rfl (by kernel_rfl) ?_
            refine wp_store_mid 25 _ _ rfl N1 0 E1.toArray rfl rfl (by rw [← HE.out.1]; exact HA12.out.there .u8 X1) jE1 oE1 ?_
            have hpN1 := HA12.out.put X1
            rw [show ints .u8 72 X1 = E1 from HE.out.1] at hpN1
            replace HA13 := HA13.out.putOther (c := N1) n12.symm 0 E1
            have HA132 : Hid (Bk .u8 _ N2 72 (fun _ => 0)) := HA13
            replace HA13 := HA132
            clear HA132
            refine ⟨belows_put lN1 _ 0 hH, fun hH => ?_⟩
            show wpAnyH _ _ _ _ _ _ _ ({ tmps := #[.int .i64 m, .agg A0.toArray, .agg A1.toArray, .int .i64 ix, .bool p, .bool q, undef, .pointer (some ⟨B, 0, none⟩), .pointer (some ⟨B + 1, 0, none⟩), undef, undef, undef, .bool false, .pointer (some ⟨c, 0, none⟩), .pointer (some ⟨N1, 0, none⟩), .pointer (some ⟨N2, 0, none⟩), undef, .pointer (some ⟨c, 0, none⟩), .pointer (some ⟨c, 0, none⟩), .bool false, .int .i64 m, .bool true, .bool false, .pointer (some ⟨c, 0, none⟩), .int .i64 m, .agg A0.toArray, .int .i64 ix, .bool p, .agg E1.toArray, .pointer (some ⟨c, 0, none⟩), .int .i64 m, .agg A1.toArray, .int .i64 ix, .bool q, .agg E2.toArray, undef, undef, undef, undef, undef, undef, undef, undef, undef, undef, undef, undef, undef, undef, undef, undef, undef, undef, undef, undef, undef, undef, undef, undef], defers := [] } : Act) _
            refine take_one 15 rfl rfl (by kernel_rfl) ?_
            refine wp_store_mid 25 _ _ rfl N2 0 E2.toArray rfl rfl (by rw [← HE.out.2]; exact HA13.out.there .u8 X2) jE2 oE2 ?_
            have hpN2 := HA13.out.put X2
            rw [show ints .u8 72 X2 = E2 from HE.out.2] at hpN2
            have hpN1 := hpN1.putOther (c := N2) n12 0 E2
            refine ⟨belows_put lN2 _ 0 hH, fun hH => ?_⟩
            show wpAnyH _ _ _ _ _ _ _ ({ tmps := #[.int .i64 m, .agg A0.toArray, .agg A1.toArray, .int .i64 ix, .bool p, .bool q, undef, .pointer (some ⟨B, 0, none⟩), .pointer (some ⟨B + 1, 0, none⟩), undef, undef, undef, .bool false, .pointer (some ⟨c, 0, none⟩), .pointer (some ⟨N1, 0, none⟩), .pointer (some ⟨N2, 0, none⟩), undef, .pointer (some ⟨c, 0, none⟩), .pointer (some ⟨c, 0, none⟩), .bool false, .int .i64 m, .bool true, .bool false, .pointer (some ⟨c, 0, none⟩), .int .i64 m, .agg A0.toArray, .int .i64 ix, .bool p, .agg E1.toArray, .pointer (some ⟨c, 0, none⟩), .int .i64 m, .agg A1.toArray, .int .i64 ix, .bool q, .agg E2.toArray, undef, undef, undef, undef, undef, undef, undef, undef, undef, undef, undef, undef, undef, undef, undef, undef, undef, undef, undef, undef, undef, undef, undef, undef], defers := [] } : Act) _
            exact wpAnyH_done (by kernel_rfl) ⟨N1, N2, rfl, hpN1, hpN2, hH, hY1, hY2⟩ _
        · refine wp_alloc_agg 25 rfl _ hz ?_
          obtain ⟨N1, hNe⟩ : ∃ N, (X101).heap.size = N := ⟨_, rfl⟩
          obtain ⟨X107, hX107⟩ : ∃ V, (X101).alloc (.cells ZR 25) = V := ⟨_, rfl⟩
          have b5 : Below (X101).heap.size (X101) X107 := by rw [← hX107]; exact (Below.refl _ _).alloc (Nat.le_refl _) _
          have lN1 : V2.heap.size ≤ N1 := by rw [← hNe]; exact hH.size
          have HA12 : Hid (Bk .u8 X107 N1 72 (fun _ => 0)) := by rw [← hX107, ← hNe, ← HZ.out.1]; exact Bk.new .u8 _ 72 (fun _ => 0) _
          rw [hNe, hX107]
          refine ⟨hH.trans (b5.mono hH.size), fun hH => ?_⟩
          clear b5 hNe hX107
          show wpAnyH _ _ _ _ _ _ _ ({ tmps := #[.int .i64 m, .agg A0.toArray, .agg A1.toArray, .int .i64 ix, .bool p, .bool q, undef, .pointer (some ⟨B, 0, none⟩), .pointer (some ⟨B + 1, 0, none⟩), undef, undef, undef, .bool false, .pointer (some ⟨c, 0, none⟩), .pointer (some ⟨N1, 0, none⟩), undef, undef, .pointer (some ⟨c, 0, none⟩), .pointer (some ⟨c, 0, none⟩), .bool false, .int .i64 m, .bool true, .bool false, .pointer (some ⟨c, 0, none⟩), .int .i64 m, .agg A0.toArray, .int .i64 ix, .bool p, .agg E1.toArray, .pointer (some ⟨c, 0, none⟩), .int .i64 m, .agg A1.toArray, .int .i64 ix, .bool q, undef, undef, undef, undef, undef, undef, undef, undef, undef, undef, undef, undef, undef, undef, undef, undef, undef, undef, undef, undef, undef, undef, undef, undef, undef], defers := [] } : Act) _
          refine take_two 11 13 rfl rfl rfl rfl (by kernel_rfl) ?_ ?_
          · refine wp_contract 11 [.tmp 29, .tmp 30, .tmp 31, .tmp 32, .tmp 33] _ rfl (enters_of Tryd.func11 (by kernel_rfl) rfl) [.pointer (some ⟨c, 0, none⟩), .int .i64 m, .agg A1.toArray, .int .i64 ix, .bool q] rfl (CE2.out c h r f _ (HS.out.next hH).cc (HS.out.next hH).tab) ?_
            rintro e X108 ⟨rfl, hY2, b5⟩
            replace HA12 : Hid (Bk .u8 X108 N1 72 (fun _ => 0)) := HA12.out.next b5
            refine ⟨_, rfl, hH.trans (b5.mono hH.size), fun hH => ?_⟩
            clear b5
            show wpAnyH _ _ _ _ _ _ _ ({ tmps := #[.int .i64 m, .agg A0.toArray, .agg A1.toArray, .int .i64 ix, .bool p, .bool q, undef, .pointer (some ⟨B, 0, none⟩), .pointer (some ⟨B + 1, 0, none⟩), undef, undef, undef, .bool false, .pointer (some ⟨c, 0, none⟩), .pointer (some ⟨N1, 0, none⟩), undef, undef, .pointer (some ⟨c, 0, none⟩), .pointer (some ⟨c, 0, none⟩), .bool false, .int .i64 m, .bool true, .bool false, .pointer (some ⟨c, 0, none⟩), .int .i64 m, .agg A0.toArray, .int .i64 ix, .bool p, .agg E1.toArray, .pointer (some ⟨c, 0, none⟩), .int .i64 m, .agg A1.toArray, .int .i64 ix, .bool q, .agg E2.toArray, undef, undef, undef, undef, undef, undef, undef, undef, undef, undef, undef, undef, undef, undef, undef, undef, undef, undef, undef, undef, undef, undef, undef, undef], defers := [] } : Act) _
            refine take_one 13 rfl rfl (by kernel_rfl) ?_
            refine wp_alloc_agg 25 rfl _ hz ?_
            obtain ⟨N2, hNe⟩ : ∃ N, (X108).heap.size = N := ⟨_, rfl⟩
            obtain ⟨X109, hX109⟩ : ∃ V, (X108).alloc (.cells ZR 25) = V := ⟨_, rfl⟩
            have b5 : Below (X108).heap.size (X108) X109 := by rw [← hX109]; exact (Below.refl _ _).alloc (Nat.le_refl _) _
            have n12 : N1 ≠ N2 := by have := HA12.out.lt; omega
            have lN2 : V2.heap.size ≤ N2 := by rw [← hNe]; exact hH.size
            replace HA12 : Hid (Bk .u8 X109 N1 72 (fun _ => 0)) := HA12.out.next b5
            have HA13 : Hid (Bk .u8 X109 N2 72 (fun _ => 0)) := by rw [← hX109, ← hNe, ← HZ.out.1]; exact Bk.new .u8 _ 72 (fun _ => 0) _
            rw [hNe, hX109]
            refine ⟨hH.trans (b5.mono hH.size), fun hH => ?_⟩
            clear b5 hNe hX109
            show wpAnyH _ _ _ _ _ _ _ ({ tmps := #[.int .i64 m, .agg A0.toArray, .agg A1.toArray, .int .i64 ix, .bool p, .bool q, undef, .pointer (some ⟨B, 0, none⟩), .pointer (some ⟨B + 1, 0, none⟩), undef, undef, undef, .bool false, .pointer (some ⟨c, 0, none⟩), .pointer (some ⟨N1, 0, none⟩), .pointer (some ⟨N2, 0, none⟩), undef, .pointer (some ⟨c, 0, none⟩), .pointer (some ⟨c, 0, none⟩), .bool false, .int .i64 m, .bool true, .bool false, .pointer (some ⟨c, 0, none⟩), .int .i64 m, .agg A0.toArray, .int .i64 ix, .bool p, .agg E1.toArray, .pointer (some ⟨c, 0, none⟩), .int .i64 m, .agg A1.toArray, .int .i64 ix, .bool q, .agg E2.toArray, undef, undef, undef, undef, undef, undef, undef, undef, undef, undef, undef, undef, undef, undef, undef, undef, undef, undef, undef, undef, undef, undef, undef, undef], defers := [] } : Act) _
            refine take_one 14 rfl rfl (by kernel_rfl) ?_
            refine wp_store_mid 25 _ _ rfl N1 0 E1.toArray rfl rfl (by rw [← HE.out.1]; exact HA12.out.there .u8 X1) jE1 oE1 ?_
            have hpN1 := HA12.out.put X1
            rw [show ints .u8 72 X1 = E1 from HE.out.1] at hpN1
            replace HA13 := HA13.out.putOther (c := N1) n12.symm 0 E1
            have HA132 : Hid (Bk .u8 _ N2 72 (fun _ => 0)) := HA13
            replace HA13 := HA132
            clear HA132
            refine ⟨belows_put lN1 _ 0 hH, fun hH => ?_⟩
            show wpAnyH _ _ _ _ _ _ _ ({ tmps := #[.int .i64 m, .agg A0.toArray, .agg A1.toArray, .int .i64 ix, .bool p, .bool q, undef, .pointer (some ⟨B, 0, none⟩), .pointer (some ⟨B + 1, 0, none⟩), undef, undef, undef, .bool false, .pointer (some ⟨c, 0, none⟩), .pointer (some ⟨N1, 0, none⟩), .pointer (some ⟨N2, 0, none⟩), undef, .pointer (some ⟨c, 0, none⟩), .pointer (some ⟨c, 0, none⟩), .bool false, .int .i64 m, .bool true, .bool false, .pointer (some ⟨c, 0, none⟩), .int .i64 m, .agg A0.toArray, .int .i64 ix, .bool p, .agg E1.toArray, .pointer (some ⟨c, 0, none⟩), .int .i64 m, .agg A1.toArray, .int .i64 ix, .bool q, .agg E2.toArray, undef, undef, undef, undef, undef, undef, undef, undef, undef, undef, undef, undef, undef, undef, undef, undef, undef, undef, undef, undef, undef, undef, undef, undef], defers := [] } : Act) _
            refine take_one 15 rfl rfl (by kernel_rfl) ?_
            refine wp_store_mid 25 _ _ rfl N2 0 E2.toArray rfl rfl (by rw [← HE.out.2]; exact HA13.out.there .u8 X2) jE2 oE2 ?_
            have hpN2 := HA13.out.put X2
            rw [show ints .u8 72 X2 = E2 from HE.out.2] at hpN2
            have hpN1 := hpN1.putOther (c := N2) n12 0 E2
            refine ⟨belows_put lN2 _ 0 hH, fun hH => ?_⟩
            show wpAnyH _ _ _ _ _ _ _ ({ tmps := #[.int .i64 m, .agg A0.toArray, .agg A1.toArray, .int .i64 ix, .bool p, .bool q, undef, .pointer (some ⟨B, 0, none⟩), .pointer (some ⟨B + 1, 0, none⟩), undef, undef, undef, .bool false, .pointer (some ⟨c, 0, none⟩), .pointer (some ⟨N1, 0, none⟩), .pointer (some ⟨N2, 0, none⟩), undef, .pointer (some ⟨c, 0, none⟩), .pointer (some ⟨c, 0, none⟩), .bool false, .int .i64 m, .bool true, .bool false, .pointer (some ⟨c, 0, none⟩), .int .i64 m, .agg A0.toArray, .int .i64 ix, .bool p, .agg E1.toArray, .pointer (some ⟨c, 0, none⟩), .int .i64 m, .agg A1.toArray, .int .i64 ix, .bool q, .agg E2.toArray, undef, undef, undef, undef, undef, undef, undef, undef, undef, undef, undef, undef, undef, undef, undef, undef, undef, undef, undef, undef, undef, undef, undef, undef], defers := [] } : Act) _
            exact wpAnyH_done (by kernel_rfl) ⟨N1, N2, rfl, hpN1, hpN2, hH, hY1, hY2⟩ _
          · refine wp_alloc_agg 25 rfl _ hz ?_
            obtain ⟨N2, hNe⟩ : ∃ N, (X107).heap.size = N := ⟨_, rfl⟩
            obtain ⟨X110, hX110⟩ : ∃ V, (X107).alloc (.cells ZR 25) = V := ⟨_, rfl⟩
            have b5 : Below (X107).heap.size (X107) X110 := by rw [← hX110]; exact (Below.refl _ _).alloc (Nat.le_refl _) _
            have n12 : N1 ≠ N2 := by have := HA12.out.lt; omega
            have lN2 : V2.heap.size ≤ N2 := by rw [← hNe]; exact hH.size
            replace HA12 : Hid (Bk .u8 X110 N1 72 (fun _ => 0)) := HA12.out.next b5
            have HA13 : Hid (Bk .u8 X110 N2 72 (fun _ => 0)) := by rw [← hX110, ← hNe, ← HZ.out.1]; exact Bk.new .u8 _ 72 (fun _ => 0) _
            rw [hNe, hX110]
            refine ⟨hH.trans (b5.mono hH.size), fun hH => ?_⟩
            clear b5 hNe hX110
            show wpAnyH _ _ _ _ _ _ _ ({ tmps := #[.int .i64 m, .agg A0.toArray, .agg A1.toArray, .int .i64 ix, .bool p, .bool q, undef, .pointer (some ⟨B, 0, none⟩), .pointer (some ⟨B + 1, 0, none⟩), undef, undef, undef, .bool false, .pointer (some ⟨c, 0, none⟩), .pointer (some ⟨N1, 0, none⟩), .pointer (some ⟨N2, 0, none⟩), undef, .pointer (some ⟨c, 0, none⟩), .pointer (some ⟨c, 0, none⟩), .bool false, .int .i64 m, .bool true, .bool false, .pointer (some ⟨c, 0, none⟩), .int .i64 m, .agg A0.toArray, .int .i64 ix, .bool p, .agg E1.toArray, .pointer (some ⟨c, 0, none⟩), .int .i64 m, .agg A1.toArray, .int .i64 ix, .bool q, undef, undef, undef, undef, undef, undef, undef, undef, undef, undef, undef, undef, undef, undef, undef, undef, undef, undef, undef, undef, undef, undef, undef, undef, undef], defers := [] } : Act) _
            refine take_one 11 rfl rfl (by kernel_rfl) ?_
            refine wp_contract 11 [.tmp 29, .tmp 30, .tmp 31, .tmp 32, .tmp 33] _ rfl (enters_of Tryd.func11 (by kernel_rfl) rfl) [.pointer (some ⟨c, 0, none⟩), .int .i64 m, .agg A1.toArray, .int .i64 ix, .bool q] rfl (CE2.out c h r f _ (HS.out.next hH).cc (HS.out.next hH).tab) ?_
            rintro e X111 ⟨rfl, hY2, b5⟩
            replace HA12 : Hid (Bk .u8 X111 N1 72 (fun _ => 0)) := HA12.out.next b5
            replace HA13 : Hid (Bk .u8 X111 N2 72 (fun _ => 0)) := HA13.out.next b5
            refine ⟨_, rfl, hH.trans (b5.mono hH.size), fun hH => ?_⟩
            clear b5
            show wpAnyH _ _ _ _ _ _ _ ({ tmps := #[.int .i64 m, .agg A0.toArray, .agg A1.toArray, .int .i64 ix, .bool p, .bool q, undef, .pointer (some ⟨B, 0, none⟩), .pointer (some ⟨B + 1, 0, none⟩), undef, undef, undef, .bool false, .pointer (some ⟨c, 0, none⟩), .pointer (some ⟨N1, 0, none⟩), .pointer (some ⟨N2, 0, none⟩), undef, .pointer (some ⟨c, 0, none⟩), .pointer (some ⟨c, 0, none⟩), .bool false, .int .i64 m, .bool true, .bool false, .pointer (some ⟨c, 0, none⟩), .int .i64 m, .agg A0.toArray, .int .i64 ix, .bool p, .agg E1.toArray, .pointer (some ⟨c, 0, none⟩), .int .i64 m, .agg A1.toArray, .int .i64 ix, .bool q, .agg E2.toArray, undef, undef, undef, undef, undef, undef, undef, undef, undef, undef, undef, undef, undef, undef, undef, undef, undef, undef, undef, undef, undef, undef, undef, undef], defers := [] } : Act) _
            refine take_one 14 rfl rfl (by kernel_rfl) ?_
            refine wp_store_mid 25 _ _ rfl N1 0 E1.toArray rfl rfl (by rw [← HE.out.1]; exact HA12.out.there .u8 X1) jE1 oE1 ?_
            have hpN1 := HA12.out.put X1
            rw [show ints .u8 72 X1 = E1 from HE.out.1] at hpN1
            replace HA13 := HA13.out.putOther (c := N1) n12.symm 0 E1
            have HA132 : Hid (Bk .u8 _ N2 72 (fun _ => 0)) := HA13
            replace HA13 := HA132
            clear HA132
            refine ⟨belows_put lN1 _ 0 hH, fun hH => ?_⟩
            show wpAnyH _ _ _ _ _ _ _ ({ tmps := #[.int .i64 m, .agg A0.toArray, .agg A1.toArray, .int .i64 ix, .bool p, .bool q, undef, .pointer (some ⟨B, 0, none⟩), .pointer (some ⟨B + 1, 0, none⟩), undef, undef, undef, .bool false, .pointer (some ⟨c, 0, none⟩), .pointer (some ⟨N1, 0, none⟩), .pointer (some ⟨N2, 0, none⟩), undef, .pointer (some ⟨c, 0, none⟩), .pointer (some ⟨c, 0, none⟩), .bool false, .int .i64 m, .bool true, .bool false, .pointer (some ⟨c, 0, none⟩), .int .i64 m, .agg A0.toArray, .int .i64 ix, .bool p, .agg E1.toArray, .pointer (some ⟨c, 0, none⟩), .int .i64 m, .agg A1.toArray, .int .i64 ix, .bool q, .agg E2.toArray, undef, undef, undef, undef, undef, undef, undef, undef, undef, undef, undef, undef, undef, undef, undef, undef, undef, undef, undef, undef, undef, undef, undef, undef], defers := [] } : Act) _
            refine take_one 15 rfl rfl (by kernel_rfl) ?_
            refine wp_store_mid 25 _ _ rfl N2 0 E2.toArray rfl rfl (by rw [← HE.out.2]; exact HA13.out.there .u8 X2) jE2 oE2 ?_
            have hpN2 := HA13.out.put X2
            rw [show ints .u8 72 X2 = E2 from HE.out.2] at hpN2
            have hpN1 := hpN1.putOther (c := N2) n12 0 E2
            refine ⟨belows_put lN2 _ 0 hH, fun hH => ?_⟩
            show wpAnyH _ _ _ _ _ _ _ ({ tmps := #[.int .i64 m, .agg A0.toArray, .agg A1.toArray, .int .i64 ix, .bool p, .bool q, undef, .pointer (some ⟨B, 0, none⟩), .pointer (some ⟨B + 1, 0, none⟩), undef, undef, undef, .bool false, .pointer (some ⟨c, 0, none⟩), .pointer (some ⟨N1, 0, none⟩), .pointer (some ⟨N2, 0, none⟩), undef, .pointer (some ⟨c, 0, none⟩), .pointer (some ⟨c, 0, none⟩), .bool false, .int .i64 m, .bool true, .bool false, .pointer (some ⟨c, 0, none⟩), .int .i64 m, .agg A0.toArray, .int .i64 ix, .bool p, .agg E1.toArray, .pointer (some ⟨c, 0, none⟩), .int .i64 m, .agg A1.toArray, .int .i64 ix, .bool q, .agg E2.toArray, undef, undef, undef, undef, undef, undef, undef, undef, undef, undef, undef, undef, undef, undef, undef, undef, undef, undef, undef, undef, undef, undef, undef, undef], defers := [] } : Act) _
            exact wpAnyH_done (by kernel_rfl) ⟨N1, N2, rfl, hpN1, hpN2, hH, hY1, hY2⟩ _
        · refine wp_alloc_agg 25 rfl _ hz ?_
          obtain ⟨N2, hNe⟩ : ∃ N, (X101).heap.size = N := ⟨_, rfl⟩
          obtain ⟨X112, hX112⟩ : ∃ V, (X101).alloc (.cells ZR 25) = V := ⟨_, rfl⟩
          have b5 : Below (X101).heap.size (X101) X112 := by rw [← hX112]; exact (Below.refl _ _).alloc (Nat.le_refl _) _
          have lN2 : V2.heap.size ≤ N2 := by rw [← hNe]; exact hH.size
          have HA13 : Hid (Bk .u8 X112 N2 72 (fun _ => 0)) := by rw [← hX112, ← hNe, ← HZ.out.1]; exact Bk.new .u8 _ 72 (fun _ => 0) _
          rw [hNe, hX112]
          refine ⟨hH.trans (b5.mono hH.size), fun hH => ?_⟩
          clear b5 hNe hX112
          show wpAnyH _ _ _ _ _ _ _ ({ tmps := #[.int .i64 m, .agg A0.toArray, .agg A1.toArray, .int .i64 ix, .bool p, .bool q, undef, .pointer (some ⟨B, 0, none⟩), .pointer (some ⟨B + 1, 0, none⟩), undef, undef, undef, .bool false, .pointer (some ⟨c, 0, none⟩), undef, .pointer (some ⟨N2, 0, none⟩), undef, .pointer (some ⟨c, 0, none⟩), .pointer (some ⟨c, 0, none⟩), .bool false, .int .i64 m, .bool true, .bool false, .pointer (some ⟨c, 0, none⟩), .int .i64 m, .agg A0.toArray, .int .i64 ix, .bool p, .agg E1.toArray, .pointer (some ⟨c, 0, none⟩), .int .i64 m, .agg A1.toArray, .int .i64 ix, .bool q, undef, undef, undef, undef, undef, undef, undef, undef, undef, undef, undef, undef, undef, undef, undef, undef, undef, undef, undef, undef, undef, undef, undef, undef, undef], defers := [] } : Act) _
          refine take_two 11 12 rfl rfl rfl rfl (by kernel_rfl) ?_ ?_
          · refine wp_contract 11 [.tmp 29, .tmp 30, .tmp 31, .tmp 32, .tmp 33] _ rfl (enters_of Tryd.func11 (by kernel_rfl) rfl) [.pointer (some ⟨c, 0, none⟩), .int .i64 m, .agg A1.toArray, .int .i64 ix, .bool q] rfl (CE2.out c h r f _ (HS.out.next hH).cc (HS.out.next hH).tab) ?_
            rintro e X113 ⟨rfl, hY2, b5⟩
            replace HA13 : Hid (Bk .u8 X113 N2 72 (fun _ => 0)) := HA13.out.next b5
            refine ⟨_, rfl, hH.trans (b5.mono hH.size), fun hH => ?_⟩
            clear b5
            show wpAnyH _ _ _ _ _ _ _ ({ tmps := #[.int .i64 m, .agg A0.toArray, .agg A1.toArray, .int .i64 ix, .bool p, .bool q, undef, .pointer (some ⟨B, 0, none⟩), .pointer (some ⟨B + 1, 0, none⟩), undef, undef, undef, .bool false, .pointer (some ⟨c, 0, none⟩), undef, .pointer (some ⟨N2, 0, none⟩), undef, .pointer (some ⟨c, 0, none⟩), .pointer (some ⟨c, 0, none⟩), .bool false, .int .i64 m, .bool true, .bool false, .pointer (some ⟨c, 0, none⟩), .int .i64 m, .agg A0.toArray, .int .i64 ix, .bool p, .agg E1.toArray, .pointer (some ⟨c, 0, none⟩), .int .i64 m, .agg A1.toArray, .int .i64 ix, .bool q, .agg E2.toArray, undef, undef, undef, undef, undef, undef, undef, undef, undef, undef, undef, undef, undef, undef, undef, undef, undef, undef, undef, undef, undef, undef, undef, undef], defers := [] } : Act) _
            refine take_one 12 rfl rfl (by kernel_rfl) ?_
            refine wp_alloc_agg 25 rfl _ hz ?_
            obtain ⟨N1, hNe⟩ : ∃ N, (X113).heap.size = N := ⟨_, rfl⟩
            obtain ⟨X114, hX114⟩ : ∃ V, (X113).alloc (.cells ZR 25) = V := ⟨_, rfl⟩
            have b5 : Below (X113).heap.size (X113) X114 := by rw [← hX114]; exact (Below.refl _ _).alloc (Nat.le_refl _) _
            have n12 : N1 ≠ N2 := by have := HA13.out.lt; omega
            have lN1 : V2.heap.size ≤ N1 := by rw [← hNe]; exact hH.size
            replace HA13 : Hid (Bk .u8 X114 N2 72 (fun _ => 0)) := HA13.out.next b5
            have HA12 : Hid (Bk .u8 X114 N1 72 (fun _ => 0)) := by rw [← hX114, ← hNe, ← HZ.out.1]; exact Bk.new .u8 _ 72 (fun _ => 0) _
            rw [hNe, hX114]
            refine ⟨hH.trans (b5.mono hH.size), fun hH => ?_⟩
            clear b5 hNe hX114
            show wpAnyH _ _ _ _ _ _ _ ({ tmps := #[.int .i64 m, .agg A0.toArray, .agg A1.toArray, .int .i64 ix, .bool p, .bool q, undef, .pointer (some ⟨B, 0, none⟩), .pointer (some ⟨B + 1, 0, none⟩), undef, undef, undef, .bool false, .pointer (some ⟨c, 0, none⟩), .pointer (some ⟨N1, 0, none⟩), .pointer (some ⟨N2, 0, none⟩), undef, .pointer (some ⟨c, 0, none⟩), .pointer (some ⟨c, 0, none⟩), .bool false, .int .i64 m, .bool true, .bool false, .pointer (some ⟨c, 0, none⟩), .int .i64 m, .agg A0.toArray, .int .i64 ix, .bool p, .agg E1.toArray, .pointer (some ⟨c, 0, none⟩), .int .i64 m, .agg A1.toArray, .int .i64 ix, .bool q, .agg E2.toArray, undef, undef, undef, undef, undef, undef, undef, undef, undef, undef, undef, undef, undef, undef, undef, undef, undef, undef, undef, undef, undef, undef, undef, undef], defers := [] } : Act) _
            refine take_one 14 rfl rfl (by kernel_rfl) ?_
            refine wp_store_mid 25 _ _ rfl N1 0 E1.toArray rfl rfl (by rw [← HE.out.1]; exact HA12.out.there .u8 X1) jE1 oE1 ?_
            have hpN1 := HA12.out.put X1
            rw [show ints .u8 72 X1 = E1 from HE.out.1] at hpN1
            replace HA13 := HA13.out.putOther (c := N1) n12.symm 0 E1
            have HA132 : Hid (Bk .u8 _ N2 72 (fun _ => 0)) := HA13
            replace HA13 := HA132
            clear HA132
            refine ⟨belows_put lN1 _ 0 hH, fun hH => ?_⟩
            show wpAnyH _ _ _ _ _ _ _ ({ tmps := #[.int .i64 m, .agg A0.toArray, .agg A1.toArray, .int .i64 ix, .bool p, .bool q, undef, .pointer (some ⟨B, 0, none⟩), .pointer (some ⟨B + 1, 0, none⟩), undef, undef, undef, .bool false, .pointer (some ⟨c, 0, none⟩), .pointer (some ⟨N1, 0, none⟩), .pointer (some ⟨N2, 0, none⟩), undef, .pointer (some ⟨c, 0, none⟩), .pointer (some ⟨c, 0, none⟩), .bool false, .int .i64 m, .bool true, .bool false, .pointer (some ⟨c, 0, none⟩), .int .i64 m, .agg A0.toArray, .int .i64 ix, .bool p, .agg E1.toArray, .pointer (some ⟨c, 0, none⟩), .int .i64 m, .agg A1.toArray, .int .i64 ix, .bool q, .agg E2.toArray, undef, undef, undef, undef, undef, undef, undef, undef, undef, undef, undef, undef, undef, undef, undef, undef, undef, undef, undef, undef, undef, undef, undef, undef], defers := [] } : Act) _
            refine take_one 15 rfl rfl (by kernel_rfl) ?_
            refine wp_store_mid 25 _ _ rfl N2 0 E2.toArray rfl rfl (by rw [← HE.out.2]; exact HA13.out.there .u8 X2) jE2 oE2 ?_
            have hpN2 := HA13.out.put X2
            rw [show ints .u8 72 X2 = E2 from HE.out.2] at hpN2
            have hpN1 := hpN1.putOther (c := N2) n12 0 E2
            refine ⟨belows_put lN2 _ 0 hH, fun hH => ?_⟩
            show wpAnyH _ _ _ _ _ _ _ ({ tmps := #[.int .i64 m, .agg A0.toArray, .agg A1.toArray, .int .i64 ix, .bool p, .bool q, undef, .pointer (some ⟨B, 0, none⟩), .pointer (some ⟨B + 1, 0, none⟩), undef, undef, undef, .bool false, .pointer (some ⟨c, 0, none⟩), .pointer (some ⟨N1, 0, none⟩), .pointer (some ⟨N2, 0, none⟩), undef, .pointer (some ⟨c, 0, none⟩), .pointer (some ⟨c, 0, none⟩), .bool false, .int .i64 m, .bool true, .bool false, .pointer (some ⟨c, 0, none⟩), .int .i64 m, .agg A0.toArray, .int .i64 ix, .bool p, .agg E1.toArray, .pointer (some ⟨c, 0, none⟩), .int .i64 m, .agg A1.toArray, .int .i64 ix, .bool q, .agg E2.toArray, undef, undef, undef, undef, undef, undef, undef, undef, undef, undef, undef, undef, undef, undef, undef, undef, undef, undef, undef, undef, undef, undef, undef, undef], defers := [] } : Act) _
            exact wpAnyH_done (by kernel_rfl) ⟨N1, N2, rfl, hpN1, hpN2, hH, hY1, hY2⟩ _
          · refine wp_alloc_agg 25 rfl _ hz ?_
            obtain ⟨N1, hNe⟩ : ∃ N, (X112).heap.size = N := ⟨_, rfl⟩
            obtain ⟨X115, hX115⟩ : ∃ V, (X112).alloc (.cells ZR 25) = V := ⟨_, rfl⟩
            have b5 : Below (X112).heap.size (X112) X115 := by rw [← hX115]; exact (Below.refl _ _).alloc (Nat.le_refl _) _
            have n12 : N1 ≠ N2 := by have := HA13.out.lt; omega
            have lN1 : V2.heap.size ≤ N1 := by rw [← hNe]; exact hH.size
            replace HA13 : Hid (Bk .u8 X115 N2 72 (fun _ => 0)) := HA13.out.next b5
            have HA12 : Hid (Bk .u8 X115 N1 72 (fun _ => 0)) := by rw [← hX115, ← hNe, ← HZ.out.1]; exact Bk.new .u8 _ 72 (fun _ => 0) _
            rw [hNe, hX115]
            refine ⟨hH.trans (b5.mono hH.size), fun hH => ?_⟩
            clear b5 hNe hX115
            show wpAnyH _ _ _ _ _ _ _ ({ tmps := #[.int .i64 m, .agg A0.toArray, .agg A1.toArray, .int .i64 ix, .bool p, .bool q, undef, .pointer (some ⟨B, 0, none⟩), .pointer (some ⟨B + 1, 0, none⟩), undef, undef, undef, .bool false, .pointer (some ⟨c, 0, none⟩), .pointer (some ⟨N1, 0, none⟩), .pointer (some ⟨N2, 0, none⟩), undef, .pointer (some ⟨c, 0, none⟩), .pointer (some ⟨c, 0, none⟩), .bool false, .int .i64 m, .bool true, .bool false, .pointer (some ⟨c, 0, none⟩), .int .i64 m, .agg A0.toArray, .int .i64 ix, .bool p, .agg E1.toArray, .pointer (some ⟨c, 0, none⟩), .int .i64 m, .agg A1.toArray, .int .i64 ix, .bool q, undef, undef, undef, undef, undef, undef, undef, undef, undef, undef, undef, undef, undef, undef, undef, undef, undef, undef, undef, undef, undef, undef, undef, undef, undef], defers := [] } : Act) _
            refine take_one 11 rfl rfl (by kernel_rfl) ?_
            refine wp_contract 11 [.tmp 29, .tmp 30, .tmp 31, .tmp 32, .tmp 33] _ rfl (enters_of Tryd.func11 (by kernel_rfl) rfl) [.pointer (some ⟨c, 0, none⟩), .int .i64 m, .agg A1.toArray, .int .i64 ix, .bool q] rfl (CE2.out c h r f _ (HS.out.next hH).cc (HS.out.next hH).tab) ?_
            rintro e X116 ⟨rfl, hY2, b5⟩
            replace HA12 : Hid (Bk .u8 X116 N1 72 (fun _ => 0)) := HA12.out.next b5
            replace HA13 : Hid (Bk .u8 X116 N2 72 (fun _ => 0)) := HA13.out.next b5
            refine ⟨_, rfl, hH.trans (b5.mono hH.size), fun hH => ?_⟩
            clear b5
            show wpAnyH _ _ _ _ _ _ _ ({ tmps := #[.int .i64 m, .agg A0.toArray, .agg A1.toArray, .int .i64 ix, .bool p, .bool q, undef, .pointer (some ⟨B, 0, none⟩), .pointer (some ⟨B + 1, 0, none⟩), undef, undef, undef, .bool false, .pointer (some ⟨c, 0, none⟩), .pointer (some ⟨N1, 0, none⟩), .pointer (some ⟨N2, 0, none⟩), undef, .pointer (some ⟨c, 0, none⟩), .pointer (some ⟨c, 0, none⟩), .bool false, .int .i64 m, .bool true, .bool false, .pointer (some ⟨c, 0, none⟩), .int .i64 m, .agg A0.toArray, .int .i64 ix, .bool p, .agg E1.toArray, .pointer (some ⟨c, 0, none⟩), .int .i64 m, .agg A1.toArray, .int .i64 ix, .bool q, .agg E2.toArray, undef, undef, undef, undef, undef, undef, undef, undef, undef, undef, undef, undef, undef, undef, undef, undef, undef, undef, undef, undef, undef, undef, undef, undef], defers := [] } : Act) _
            refine take_one 14 rfl rfl (by kernel_rfl) ?_
            refine wp_store_mid 25 _ _ rfl N1 0 E1.toArray rfl rfl (by rw [← HE.out.1]; exact HA12.out.there .u8 X1) jE1 oE1 ?_
            have hpN1 := HA12.out.put X1
            rw [show ints .u8 72 X1 = E1 from HE.out.1] at hpN1
            replace HA13 := HA13.out.putOther (c := N1) n12.symm 0 E1
            have HA132 : Hid (Bk .u8 _ N2 72 (fun _ => 0)) := HA13
            replace HA13 := HA132
            clear HA132
            refine ⟨belows_put lN1 _ 0 hH, fun hH => ?_⟩
            show wpAnyH _ _ _ _ _ _ _ ({ tmps := #[.int .i64 m, .agg A0.toArray, .agg A1.toArray, .int .i64 ix, .bool p, .bool q, undef, .pointer (some ⟨B, 0, none⟩), .pointer (some ⟨B + 1, 0, none⟩), undef, undef, undef, .bool false, .pointer (some ⟨c, 0, none⟩), .pointer (some ⟨N1, 0, none⟩), .pointer (some ⟨N2, 0, none⟩), undef, .pointer (some ⟨c, 0, none⟩), .pointer (some ⟨c, 0, none⟩), .bool false, .int .i64 m, .bool true, .bool false, .pointer (some ⟨c, 0, none⟩), .int .i64 m, .agg A0.toArray, .int .i64 ix, .bool p, .agg E1.toArray, .pointer (some ⟨c, 0, none⟩), .int .i64 m, .agg A1.toArray, .int .i64 ix, .bool q, .agg E2.toArray, undef, undef, undef, undef, undef, undef, undef, undef, undef, undef, undef, undef, undef, undef, undef, undef, undef, undef, undef, undef, undef, undef, undef, undef], defers := [] } : Act) _
            refine take_one 15 rfl rfl (by kernel_rfl) ?_
            refine wp_store_mid 25 _ _ rfl N2 0 E2.toArray rfl rfl (by rw [← HE.out.2]; exact HA13.out.there .u8 X2) jE2 oE2 ?_
            have hpN2 := HA13.out.put X2
            rw [show ints .u8 72 X2 = E2 from HE.out.2] at hpN2
            have hpN1 := hpN1.putOther (c := N2) n12 0 E2
            refine ⟨belows_put lN2 _ 0 hH, fun hH => ?_⟩
            show wpAnyH _ _ _ _ _ _ _ ({ tmps := #[.int .i64 m, .agg A0.toArray, .agg A1.toArray, .int .i64 ix, .bool p, .bool q, undef, .pointer (some ⟨B, 0, none⟩), .pointer (some ⟨B + 1, 0, none⟩), undef, undef, undef, .bool false, .pointer (some ⟨c, 0, none⟩), .pointer (some ⟨N1, 0, none⟩), .pointer (some ⟨N2, 0, none⟩), undef, .pointer (some ⟨c, 0, none⟩), .pointer (some ⟨c, 0, none⟩), .bool false, .int .i64 m, .bool true, .bool false, .pointer (some ⟨c, 0, none⟩), .int .i64 m, .agg A0.toArray, .int .i64 ix, .bool p, .agg E1.toArray, .pointer (some ⟨c, 0, none⟩), .int .i64 m, .agg A1.toArray, .int .i64 ix, .bool q, .agg E2.toArray, undef, undef, undef, undef, undef, undef, undef, undef, undef, undef, undef, undef, undef, undef, undef, undef, undef, undef, undef, undef, undef, undef, undef, undef], defers := [] } : Act) _
            exact wpAnyH_done (by kernel_rfl) ⟨N1, N2, rfl, hpN1, hpN2, hH, hY1, hY2⟩ _
      · refine wp_alloc_agg 25 rfl _ hz ?_
        obtain ⟨N1, hNe⟩ : ∃ N, (V2.drew).heap.size = N := ⟨_, rfl⟩
        obtain ⟨X117, hX117⟩ : ∃ V, (V2.drew).alloc (.cells ZR 25) = V := ⟨_, rfl⟩
        have b5 : Below (V2.drew).heap.size (V2.drew) X117 := by rw [← hX117]; exact (Below.refl _ _).alloc (Nat.le_refl _) _
        have lN1 : V2.heap.size ≤ N1 := by rw [← hNe]; exact hH.size
        have HA12 : Hid (Bk .u8 X117 N1 72 (fun _ => 0)) := by rw [← hX117, ← hNe, ← HZ.out.1]; exact Bk.new .u8 _ 72 (fun _ => 0) _
        rw [hNe, hX117]
        refine ⟨hH.trans (b5.mono hH.size), fun hH => ?_⟩
        clear b5 hNe hX117
        show wpAnyH _ _ _ _ _ _ _ ({ tmps := #[.int .i64 m, .agg A0.toArray, .agg A1.toArray, .int .i64 ix, .bool p, .bool q, undef, .pointer (some ⟨B, 0, none⟩), .pointer (some ⟨B + 1, 0, none⟩), undef, undef, undef, .bool false, .pointer (some ⟨c, 0, none⟩), .pointer (some ⟨N1, 0, none⟩), undef, undef, .pointer (some ⟨c, 0, none⟩), .pointer (some ⟨c, 0, none⟩), .bool false, .int .i64 m, .bool true, .bool false, .pointer (some ⟨c, 0, none⟩), .int .i64 m, .agg A0.toArray, .int .i64 ix, .bool p, undef, .pointer (some ⟨c, 0, none⟩), .int .i64 m, .agg A1.toArray, .int .i64 ix, .bool q, undef, undef, undef, undef, undef, undef, undef, undef, undef, undef, undef, undef, undef, undef, undef, undef, undef, undef, undef, undef, undef, undef, undef, undef, undef], defers := [] } : Act) _
        refine take_two 5 13 rfl rfl rfl rfl (by kernel_rfl) ?_ ?_
        · refine wp_contract 11 [.tmp 23, .tmp 24, .tmp 25, .tmp 26, .tmp 27] _ rfl (enters_of Tryd.func11 (by kernel_rfl) rfl) [.pointer (some ⟨c, 0, none⟩), .int .i64 m, .agg A0.toArray, .int .i64 ix, .bool p] rfl (CE1.out c h r f _ (HS.out.next hH).cc (HS.out.next hH).tab) ?_
          rintro e X118 ⟨rfl, hY1, b5⟩
          replace HA12 : Hid (Bk .u8 X118 N1 72 (fun _ => 0)) := HA12.out.next b5
          refine ⟨_, rfl, hH.trans (b5.mono hH.size), fun hH => ?_⟩
          clear b5
          show wpAnyH _ _ _ _ _ _ _ ({ tmps := #[.int .i64 m, .agg A0.toArray, .agg A1.toArray, .int .i64 ix, .bool p, .bool q, undef, .pointer (some ⟨B, 0, none⟩), .pointer (some ⟨B + 1, 0, none⟩), undef, undef, undef, .bool false, .pointer (some ⟨c, 0, none⟩), .pointer (some ⟨N1, 0, none⟩), undef, undef, .pointer (some ⟨c, 0, none⟩), .pointer (some ⟨c, 0, none⟩), .bool false, .int .i64 m, .bool true, .bool false, .pointer (some ⟨c, 0, none⟩), .int .i64 m, .agg A0.toArray, .int .i64 ix, .bool p, .agg E1.toArray, .pointer (some ⟨c, 0, none⟩), .int .i64 m, .agg A1.toArray, .int .i64 ix, .bool q, undef, undef, undef, undef, undef, undef, undef, undef, undef, undef, undef, undef, undef, undef, undef, undef, undef, undef, undef, undef, undef, undef, undef, undef, undef], defers := [] } : Act) _
          refine take_two 11 13 rfl rfl rfl rfl (by kernel_rfl) ?_ ?_
          · refine wp_contract 11 [.tmp 29, .tmp 30, .tmp 31, .tmp 32, .tmp 33] _ rfl (enters_of Tryd.func11 (by kernel_rfl) rfl) [.pointer (some ⟨c, 0, none⟩), .int .i64 m, .agg A1.toArray, .int .i64 ix, .bool q] rfl (CE2.out c h r f _ (HS.out.next hH).cc (HS.out.next hH).tab) ?_
            rintro e X119 ⟨rfl, hY2, b5⟩
            replace HA12 : Hid (Bk .u8 X119 N1 72 (fun _ => 0)) := HA12.out.next b5
            refine ⟨_, rfl, hH.trans (b5.mono hH.size), fun hH => ?_⟩
            clear b5
            show wpAnyH _ _ _ _ _ _ _ ({ tmps := #[.int .i64 m, .agg A0.toArray, .agg A1.toArray, .int .i64 ix, .bool p, .bool q, undef, .pointer (some ⟨B, 0, none⟩), .pointer (some ⟨B + 1, 0, none⟩), undef, undef, undef, .bool false, .pointer (some ⟨c, 0, none⟩), .pointer (some ⟨N1, 0, none⟩), undef, undef, .pointer (some ⟨c, 0, none⟩), .pointer (some ⟨c, 0, none⟩), .bool false, .int .i64 m, .bool true, .bool false, .pointer (some ⟨c, 0, none⟩), .int .i64 m, .agg A0.toArray, .int .i64 ix, .bool p, .agg E1.toArray, .pointer (some ⟨c, 0, none⟩), .int .i64 m, .agg A1.toArray, .int .i64 ix, .bool q, .agg E2.toArray, undef, undef, undef, undef, undef, undef, undef, undef, undef, undef, undef, undef, undef, undef, undef, undef, undef, undef, undef, undef, undef, undef, undef, undef], defers := [] } : Act) _
            refine take_one 13 rfl rfl (by kernel_rfl) ?_
            refine wp_alloc_agg 25 rfl _ hz ?_
            obtain ⟨N2, hNe⟩ : ∃ N, (X119).heap.size = N := ⟨_, rfl⟩
            obtain ⟨X120, hX120⟩ : ∃ V, (X119).alloc (.cells ZR 25) = V := ⟨_, rfl⟩
            have b5 : Below (X119).heap.size (X119) X120 := by rw [← hX120]; exact (Below.refl _ _).alloc (Nat.le_refl _) _
            have n12 : N1 ≠ N2 := by have := HA12.out.lt; omega
            have lN2 : V2.heap.size ≤ N2 := by rw [← hNe]; exact hH.size
            replace HA12 : Hid (Bk .u8 X120 N1 72 (fun _ => 0)) := HA12.out.next b5
            have HA13 : Hid (Bk .u8 X120 N2 72 (fun _ => 0)) := by rw [← hX120, ← hNe, ← HZ.out.1]; exact Bk.new .u8 _ 72 (fun _ => 0) _
            rw [hNe, hX120]
            refine ⟨hH.trans (b5.mono hH.size), fun hH => ?_⟩
            clear b5 hNe hX120
            show wpAnyH _ _ _ _ _ _ _ ({ tmps := #[.int .i64 m, .agg A0.toArray, .agg A1.toArray, .int .i64 ix, .bool p, .bool q, undef, .pointer (some ⟨B, 0, none⟩), .pointer (some ⟨B + 1, 0, none⟩), undef, undef, undef, .bool false, .pointer (some ⟨c, 0, none⟩), .pointer (some ⟨N1, 0, none⟩), .pointer (some ⟨N2, 0, none⟩), undef, .pointer (some ⟨c, 0, none⟩), .pointer (some ⟨c, 0, none⟩), .bool false, .int .i64 m, .bool true, .bool false, .pointer (some ⟨c, 0, none⟩), .int .i64 m, .agg A0.toArray, .int .i64 ix, .bool p, .agg E1.toArray, .pointer (some ⟨c, 0, none⟩), .int .i64 m, .agg A1.toArray, .int .i64 ix, .bool q, .agg E2.toArray, undef, undef, undef, undef, undef, undef, undef, undef, undef, undef, undef, undef, undef, undef, undef, undef, undef, undef, undef, undef, undef, undef, undef, undef], defers := [] } : Act) _
            refine take_one 14 rfl rfl (by kernel_rfl) ?_
            refine wp_store_mid 25 _ _ rfl N1 0 E1.toArray rfl rfl (by rw [← HE.out.1]; exact HA12.out.there .u8 X1) jE1 oE1 ?_
            have hpN1 := HA12.out.put X1
            rw [show ints .u8 72 X1 = E1 from HE.out.1] at hpN1
            replace HA13 := HA13.out.putOther (c := N1) n12.symm 0 E1
            have HA132 : Hid (Bk .u8 _ N2 72 (fun _ => 0)) := HA13
            replace HA13 := HA132
            clear HA132
            refine ⟨belows_put lN1 _ 0 hH, fun hH => ?_⟩
            show wpAnyH _ _ _ _ _ _ _ ({ tmps := #[.int .i64 m, .agg A0.toArray, .agg A1.toArray, .int .i64 ix, .bool p, .bool q, undef, .pointer (some ⟨B, 0, none⟩), .pointer (some ⟨B + 1, 0, none⟩), undef, undef, undef, .bool false, .pointer (some ⟨c, 0, none⟩), .pointer (some ⟨N1, 0, none⟩), .pointer (some ⟨N2, 0, none⟩), undef, .pointer (some ⟨c, 0, none⟩), .pointer (some ⟨c, 0, none⟩), .bool false, .int .i64 m, .bool true, .bool false, .pointer (some ⟨c, 0, none⟩), .int .i64 m, .agg A0.toArray, .int .i64 ix, .bool p, .agg E1.toArray, .pointer (some ⟨c, 0, none⟩), .int .i64 m, .agg A1.toArray, .int .i64 ix, .bool q, .agg E2.toArray, undef, undef, undef, undef, undef, undef, undef, undef, undef, undef, undef, undef, undef, undef, undef, undef, undef, undef, undef, undef, undef, undef, undef, undef], defers := [] } : Act) _
            refine take_one 15 rfl rfl (by kernel_rfl) ?_
            refine wp_store_mid 25 _ _ rfl N2 0 E2.toArray rfl rfl (by rw [← HE.out.2]; exact HA13.out.there .u8 X2) jE2 oE2 ?_
            have hpN2 := HA13.out.put X2
            rw [show ints .u8 72 X2 = E2 from HE.out.2] at hpN2
            have hpN1 := hpN1.putOther (c := N2) n12 0 E2
            refine ⟨belows_put lN2 _ 0 hH, fun hH => ?_⟩
            show wpAnyH _ _ _ _ _ _ _ ({ tmps := #[.int .i64 m, .agg A0.toArray, .agg A1.toArray, .int .i64 ix, .bool p, .bool q, undef, .pointer (some ⟨B, 0, none⟩), .pointer (some ⟨B + 1, 0, none⟩), undef, undef, undef, .bool false, .pointer (some ⟨c, 0, none⟩), .pointer (some ⟨N1, 0, none⟩), .pointer (some ⟨N2, 0, none⟩), undef, .pointer (some ⟨c, 0, none⟩), .pointer (some ⟨c, 0, none⟩), .bool false, .int .i64 m, .bool true, .bool false, .pointer (some ⟨c, 0, none⟩), .int .i64 m, .agg A0.toArray, .int .i64 ix, .bool p, .agg E1.toArray, .pointer (some ⟨c, 0, none⟩), .int .i64 m, .agg A1.toArray, .int .i64 ix, .bool q, .agg E2.toArray, undef, undef, undef, undef, undef, undef, undef, undef, undef, undef, undef, undef, undef, undef, undef, undef, undef, undef, undef, undef, undef, undef, undef, undef], defers := [] } : Act) _
            exact wpAnyH_done (by kernel_rfl) ⟨N1, N2, rfl, hpN1, hpN2, hH, hY1, hY2⟩ _
          · refine wp_alloc_agg 25 rfl _ hz ?_
            obtain ⟨N2, hNe⟩ : ∃ N, (X118).heap.size = N := ⟨_, rfl⟩
            obtain ⟨X121, hX121⟩ : ∃ V, (X118).alloc (.cells ZR 25) = V := ⟨_, rfl⟩
            have b5 : Below (X118).heap.size (X118) X121 := by rw [← hX121]; exact (Below.refl _ _).alloc (Nat.le_refl _) _
            have n12 : N1 ≠ N2 := by have := HA12.out.lt; omega
            have lN2 : V2.heap.size ≤ N2 := by rw [← hNe]; exact hH.size
            replace HA12 : Hid (Bk .u8 X121 N1 72 (fun _ => 0)) := HA12.out.next b5
            have HA13 : Hid (Bk .u8 X121 N2 72 (fun _ => 0)) := by rw [← hX121, ← hNe, ← HZ.out.1]; exact Bk.new .u8 _ 72 (fun _ => 0) _
            rw [hNe, hX121]
            refine ⟨hH.trans (b5.mono hH.size), fun hH => ?_⟩
            clear b5 hNe hX121
            show wpAnyH _ _ _ _ _ _ _ ({ tmps := #[.int .i64 m, .agg A0.toArray, .agg A1.toArray, .int .i64 ix, .bool p, .bool q, undef, .pointer (some ⟨B, 0, none⟩), .pointer (some ⟨B + 1, 0, none⟩), undef, undef, undef, .bool false, .pointer (some ⟨c, 0, none⟩), .pointer (some ⟨N1, 0, none⟩), .pointer (some ⟨N2, 0, none⟩), undef, .pointer (some ⟨c, 0, none⟩), .pointer (some ⟨c, 0, none⟩), .bool false, .int .i64 m, .bool true, .bool false, .pointer (some ⟨c, 0, none⟩), .int .i64 m, .agg A0.toArray, .int .i64 ix, .bool p, .agg E1.toArray, .pointer (some ⟨c, 0, none⟩), .int .i64 m, .agg A1.toArray, .int .i64 ix, .bool q, undef, undef, undef, undef, undef, undef, undef, undef, undef, undef, undef, undef, undef, undef, undef, undef, undef, undef, undef, undef, undef, undef, undef, undef, undef], defers := [] } : Act) _
            refine take_one 11 rfl rfl (by kernel_rfl) ?_
            refine wp_contract 11 [.tmp 29, .tmp 30, .tmp 31, .tmp 32, .tmp 33] _ rfl (enters_of Tryd.func11 (by kernel_rfl) rfl) [.pointer (some ⟨c, 0, none⟩), .int .i64 m, .agg A1.toArray, .int .i64 ix, .bool q] rfl (CE2.out c h r f _ (HS.out.next hH).cc (HS.out.next hH).tab) ?_
            rintro e X122 ⟨rfl, hY2, b5⟩
            replace HA12 : Hid (Bk .u8 X122 N1 72 (fun _ => 0)) := HA12.out.next b5
            replace HA13 : Hid (Bk .u8 X122 N2 72 (fun _ => 0)) := HA13.out.next b5
            refine ⟨_, rfl, hH.trans (b5.mono hH.size), fun hH => ?_⟩
            clear b5
            show wpAnyH _ _ _ _ _ _ _ ({ tmps := #[.int .i64 m, .agg A0.toArray, .agg A1.toArray, .int .i64 ix, .bool p, .bool q, undef, .pointer (some ⟨B, 0, none⟩), .pointer (some ⟨B + 1, 0, none⟩), undef, undef, undef, .bool false, .pointer (some ⟨c, 0, none⟩), .pointer (some ⟨N1, 0, none⟩), .pointer (some ⟨N2, 0, none⟩), undef, .pointer (some ⟨c, 0, none⟩), .pointer (some ⟨c, 0, none⟩), .bool false, .int .i64 m, .bool true, .bool false, .pointer (some ⟨c, 0, none⟩), .int .i64 m, .agg A0.toArray, .int .i64 ix, .bool p, .agg E1.toArray, .pointer (some ⟨c, 0, none⟩), .int .i64 m, .agg A1.toArray, .int .i64 ix, .bool q, .agg E2.toArray, undef, undef, undef, undef, undef, undef, undef, undef, undef, undef, undef, undef, undef, undef, undef, undef, undef, undef, undef, undef, undef, undef, undef, undef], defers := [] } : Act) _
            refine take_one 14 rfl rfl (by kernel_rfl) ?_
            refine wp_store_mid 25 _ _ rfl N1 0 E1.toArray rfl rfl (by rw [← HE.out.1]; exact HA12.out.there .u8 X1) jE1 oE1 ?_
            have hpN1 := HA12.out.put X1
            rw [show ints .u8 72 X1 = E1 from HE.out.1] at hpN1
            replace HA13 := HA13.out.putOther (c := N1) n12.symm 0 E1
            have HA132 : Hid (Bk .u8 _ N2 72 (fun _ => 0)) := HA13
            replace HA13 := HA132
            clear HA132
            refine ⟨belows_put lN1 _ 0 hH, fun hH => ?_⟩
            show wpAnyH _ _ _ _ _ _ _ ({ tmps := #[.int .i64 m, .agg A0.toArray, .agg A1.toArray, .int .i64 ix, .bool p, .bool q, undef, .pointer (some ⟨B, 0, none⟩), .pointer (some ⟨B + 1, 0, none⟩), undef, undef, undef, .bool false, .pointer (some ⟨c, 0, none⟩), .pointer (some ⟨N1, 0, none⟩), .pointer (some ⟨N2, 0, none⟩), undef, .pointer (some ⟨c, 0, none⟩), .pointer (some ⟨c, 0, none⟩), .bool false, .int .i64 m, .bool true, .bool false, .pointer (some ⟨c, 0, none⟩), .int .i64 m, .agg A0.toArray, .int .i64 ix, .bool p, .agg E1.toArray, .pointer (some ⟨c, 0, none⟩), .int .i64 m, .agg A1.toArray, .int .i64 ix, .bool q, .agg E2.toArray, undef, undef, undef, undef, undef, undef, undef, undef, undef, undef, undef, undef, undef, undef, undef, undef, undef, undef, undef, undef, undef, undef, undef, undef], defers := [] } : Act) _
            refine take_one 15 rfl rfl (by kernel_rfl) ?_
            refine wp_store_mid 25 _ _ rfl N2 0 E2.toArray rfl rfl (by rw [← HE.out.2]; exact HA13.out.there .u8 X2) jE2 oE2 ?_
            have hpN2 := HA13.out.put X2
            rw [show ints .u8 72 X2 = E2 from HE.out.2] at hpN2
            have hpN1 := hpN1.putOther (c := N2) n12 0 E2
            refine ⟨belows_put lN2 _ 0 hH, fun hH => ?_⟩
            show wpAnyH _ _ _ _ _ _ _ ({ tmps := #[.int .i64 m, .agg A0.toArray, .agg A1.toArray, .int .i64 ix, .bool p, .bool q, undef, .pointer (some ⟨B, 0, none⟩), .pointer (some ⟨B + 1, 0, none⟩), undef, undef, undef, .bool false, .pointer (some ⟨c, 0, none⟩), .pointer (some ⟨N1, 0, none⟩), .pointer (some ⟨N2, 0, none⟩), undef, .pointer (some ⟨c, 0, none⟩), .pointer (some ⟨c, 0, none⟩), .bool false, .int .i64 m, .bool true, .bool false, .pointer (some ⟨c, 0, none⟩), .int .i64 m, .agg A0.toArray, .int .i64 ix, .bool p, .agg E1.toArray, .pointer (some ⟨c, 0, none⟩), .int .i64 m, .agg A1.toArray, .int .i64 ix, .bool q, .agg E2.toArray, undef, undef, undef, undef, undef, undef, undef, undef, undef, undef, undef, undef, undef, undef, undef, undef, undef, undef, undef, undef, undef, undef, undef, undef], defers := [] } : Act) _
            exact wpAnyH_done (by kernel_rfl) ⟨N1, N2, rfl, hpN1, hpN2, hH, hY1, hY2⟩ _
        · refine wp_alloc_agg 25 rfl _ hz ?_
          obtain ⟨N2, hNe⟩ : ∃ N, (X117).heap.size = N := ⟨_, rfl⟩
          obtain ⟨X123, hX123⟩ : ∃ V, (X117).alloc (.cells ZR 25) = V := ⟨_, rfl⟩
          have b5 : Below (X117).heap.size (X117) X123 := by rw [← hX123]; exact (Below.refl _ _).alloc (Nat.le_refl _) _
          have n12 : N1 ≠ N2 := by have := HA12.out.lt; omega
          have lN2 : V2.heap.size ≤ N2 := by rw [← hNe]; exact hH.size
          replace HA12 : Hid (Bk .u8 X123 N1 72 (fun _ => 0)) := HA12.out.next b5
          have HA13 : Hid (Bk .u8 X123 N2 72 (fun _ => 0)) := by rw [← hX123, ← hNe, ← HZ.out.1]; exact Bk.new .u8 _ 72 (fun _ => 0) _
          rw [hNe, hX123]
          refine ⟨hH.trans (b5.mono hH.size), fun hH => ?_⟩
          clear b5 hNe hX123
          show wpAnyH _ _ _ _ _ _ _ ({ tmps := #[.int .i64 m, .agg A0.toArray, .agg A1.toArray, .int .i64 ix, .bool p, .bool q, undef, .pointer (some ⟨B, 0, none⟩), .pointer (some ⟨B + 1, 0, none⟩), undef, undef, undef, .bool false, .pointer (some ⟨c, 0, none⟩), .pointer (some ⟨N1, 0, none⟩), .pointer (some ⟨N2, 0, none⟩), undef, .pointer (some ⟨c, 0, none⟩), .pointer (some ⟨c, 0, none⟩), .bool false, .int .i64 m, .bool true, .bool false, .pointer (some ⟨c, 0, none⟩), .int .i64 m, .agg A0.toArray, .int .i64 ix, .bool p, undef, .pointer (some ⟨c, 0, none⟩), .int .i64 m, .agg A1.toArray, .int .i64 ix, .bool q, undef, undef, undef, undef, undef, undef, undef, undef, undef, undef, undef, undef, undef, undef, undef, undef, undef, undef, undef, undef, undef, undef, undef, undef, undef], defers := [] } : Act) _
          refine take_one 5 rfl rfl (by kernel_rfl) ?_
          refine wp_contract 11 [.tmp 23, .tmp 24, .tmp 25, .tmp 26, .tmp 27] _ rfl (enters_of Tryd.func11 (by kernel_rfl) rfl) [.pointer (some ⟨c, 0, none⟩), .int .i64 m, .agg A0.toArray, .int .i64 ix, .bool p] rfl (CE1.out c h r f _ (HS.out.next hH).cc (HS.out.next hH).tab) ?_
          rintro e X124 ⟨rfl, hY1, b5⟩
          replace HA12 : Hid (Bk .u8 X124 N1 72 (fun _ => 0)) := HA12.out.next b5
          replace HA13 : Hid (Bk .u8 X124 N2 72 (fun _ => 0)) := HA13.out.next b5
          refine ⟨_, rfl, hH.trans (b5.mono hH.size), fun hH => ?_⟩
          clear b5
          show wpAnyH _ _ _ _ _ _ _ ({ tmps := #[.int .i64 m, .agg A0.toArray, .agg A1.toArray, .int .i64 ix, .bool p, .bool q, undef, .pointer (some ⟨B, 0, none⟩), .pointer (some ⟨B + 1, 0, none⟩), undef, undef, undef, .bool false, .pointer (some ⟨c, 0, none⟩), .pointer (some ⟨N1, 0, none⟩), .pointer (some ⟨N2, 0, none⟩), undef, .pointer (some ⟨c, 0, none⟩), .pointer (some ⟨c, 0, none⟩), .bool false, .int .i64 m, .bool true, .bool false, .pointer (some ⟨c, 0, none⟩), .int .i64 m, .agg A0.toArray, .int .i64 ix, .bool p, .agg E1.toArray, .pointer (some ⟨c, 0, none⟩), .int .i64 m, .agg A1.toArray, .int .i64 ix, .bool q, undef, undef, undef, undef, undef, undef, undef, undef, undef, undef, undef, undef, undef, undef, undef, undef, undef, undef, undef, undef, undef, undef, undef, undef, undef], defers := [] } : Act) _
          refine take_one 11 rfl rfl (by kernel_rfl) ?_
          refine wp_contract 11 [.tmp 29, .tmp 30, .tmp 31, .tmp 32, .tmp 33] _ rfl (enters_of Tryd.func11 (by kernel_rfl) rfl) [.pointer (some ⟨c, 0, none⟩), .int .i64 m, .agg A1.toArray, .int .i64 ix, .bool q] rfl (CE2.out c h r f _ (HS.out.next hH).cc (HS.out.next hH).tab) ?_
          rintro e X125 ⟨rfl, hY2, b5⟩
          replace HA12 : Hid (Bk .u8 X125 N1 72 (fun _ => 0)) := HA12.out.next b5
          replace HA13 : Hid (Bk .u8 X125 N2 72 (fun _ => 0)) := HA13.out.next b5
          refine ⟨_, rfl, hH.trans (b5.mono hH.size), fun hH => ?_⟩
          clear b5
          show wpAnyH _ _ _ _ _ _ _ ({ tmps := #[.int .i64 m, .agg A0.toArray, .agg A1.toArray, .int .i64 ix, .bool p, .bool q, undef, .pointer (some ⟨B, 0, none⟩), .pointer (some ⟨B + 1, 0, none⟩), undef, undef, undef, .bool false, .pointer (some ⟨c, 0, none⟩), .pointer (some ⟨N1, 0, none⟩), .pointer (some ⟨N2, 0, none⟩), undef, .pointer (some ⟨c, 0, none⟩), .pointer (some ⟨c, 0, none⟩), .bool false, .int .i64 m, .bool true, .bool false, .pointer (some ⟨c, 0, none⟩), .int .i64 m, .agg A0.toArray, .int .i64 ix, .bool p, .agg E1.toArray, .pointer (some ⟨c, 0, none⟩), .int .i64 m, .agg A1.toArray, .int .i64 ix, .bool q, .agg E2.toArray, undef, undef, undef, undef, undef, undef, undef, undef, undef, undef, undef, undef, undef, undef, undef, undef, undef, undef, undef, undef, undef, undef, undef, undef], defers := [] } : Act) _
          refine take_one 14 rfl rfl (by kernel_rfl) ?_
          refine wp_store_mid 25 _ _ rfl N1 0 E1.toArray rfl rfl (by rw [← HE.out.1]; exact HA12.out.there .u8 X1) jE1 oE1 ?_
          have hpN1 := HA12.out.put X1
          rw [show ints .u8 72 X1 = E1 from HE.out.1] at hpN1
          replace HA13 := HA13.out.putOther (c := N1) n12.symm 0 E1
          have HA132 : Hid (Bk .u8 _ N2 72 (fun _ => 0)) := HA13
          replace HA13 := HA132
          clear HA132
          refine ⟨belows_put lN1 _ 0 hH, fun hH => ?_⟩
          show wpAnyH _ _ _ _ _ _ _ ({ tmps := #[.int .i64 m, .agg A0.toArray, .agg A1.toArray, .int .i64 ix, .bool p, .bool q, undef, .pointer (some ⟨B, 0, none⟩), .pointer (some ⟨B + 1, 0, none⟩), undef, undef, undef, .bool false, .pointer (some ⟨c, 0, none⟩), .pointer (some ⟨N1, 0, none⟩), .pointer (some ⟨N2, 0, none⟩), undef, .pointer (some ⟨c, 0, none⟩), .pointer (some ⟨c, 0, none⟩), .bool false, .int .i64 m, .bool true, .bool false, .pointer (some ⟨c, 0, none⟩), .int .i64 m, .agg A0.toArray, .int .i64 ix, .bool p, .agg E1.toArray, .pointer (some ⟨c, 0, none⟩), .int .i64 m, .agg A1.toArray, .int .i64 ix, .bool q, .agg E2.toArray, undef, undef, undef, undef, undef, undef, undef, undef, undef, undef, undef, undef, undef, undef, undef, undef, undef, undef, undef, undef, undef, undef, undef, undef], defers := [] } : Act) _
          refine take_one 15 rfl rfl (by kernel_rfl) ?_
          refine wp_store_mid 25 _ _ rfl N2 0 E2.toArray rfl rfl (by rw [← HE.out.2]; exact HA13.out.there .u8 X2) jE2 oE2 ?_
          have hpN2 := HA13.out.put X2
          rw [show ints .u8 72 X2 = E2 from HE.out.2] at hpN2
          have hpN1 := hpN1.putOther (c := N2) n12 0 E2
          refine ⟨belows_put lN2 _ 0 hH, fun hH => ?_⟩
          show wpAnyH _ _ _ _ _ _ _ ({ tmps := #[.int .i64 m, .agg A0.toArray, .agg A1.toArray, .int .i64 ix, .bool p, .bool q, undef, .pointer (some ⟨B, 0, none⟩), .pointer (some ⟨B + 1, 0, none⟩), undef, undef, undef, .bool false, .pointer (some ⟨c, 0, none⟩), .pointer (some ⟨N1, 0, none⟩), .pointer (some ⟨N2, 0, none⟩), undef, .pointer (some ⟨c, 0, none⟩), .pointer (some ⟨c, 0, none⟩), .bool false, .int .i64 m, .bool true, .bool false, .pointer (some ⟨c, 0, none⟩), .int .i64 m, .agg A0.toArray, .int .i64 ix, .bool p, .agg E1.toArray, .pointer (some ⟨c, 0, none⟩), .int .i64 m, .agg A1.toArray, .int .i64 ix, .bool q, .agg E2.toArray, undef, undef, undef, undef, undef, undef, undef, undef, undef, undef, undef, undef, undef, undef, undef, undef, undef, undef, undef, undef, undef, undef, undef, undef], defers := [] } : Act) _
          exact wpAnyH_done (by kernel_rfl) ⟨N1, N2, rfl, hpN1, hpN2, hH, hY1, hY2⟩ _
      · refine wp_alloc_agg 25 rfl _ hz ?_
        obtain ⟨N2, hNe⟩ : ∃ N, (V2.drew).heap.size = N := ⟨_, rfl⟩
        obtain ⟨X126, hX126⟩ : ∃ V, (V2.drew).alloc (.cells ZR 25) = V := ⟨_, rfl⟩
        have b5 : Below (V2.drew).heap.size (V2.drew) X126 := by rw [← hX126]; exact (Below.refl _ _).alloc (Nat.le_refl _) _
        have lN2 : V2.heap.size ≤ N2 := by rw [← hNe]; exact hH.size
        have HA13 : Hid (Bk .u8 X126 N2 72 (fun _ => 0)) := by rw [← hX126, ← hNe, ← HZ.out.1]; exact Bk.new .u8 _ 72 (fun _ => 0) _
        rw [hNe, hX126]
        refine ⟨hH.trans (b5.mono hH.size), fun hH => ?_⟩
        clear b5 hNe hX126
        show wpAnyH _ _ _ _ _ _ _ ({ tmps := #[.int .i64 m, .agg A0.toArray, .agg A1.toArray, .int .i64 ix, .bool p, .bool q, undef, .pointer (some ⟨B, 0, none⟩), .pointer (some ⟨B + 1, 0, none⟩), undef, undef, undef, .bool false, .pointer (some ⟨c, 0, none⟩), undef, .pointer (some ⟨N2, 0, none⟩), undef, .pointer (some ⟨c, 0, none⟩), .pointer (some ⟨c, 0, none⟩), .bool false, .int .i64 m, .bool true, .bool false, .pointer (some ⟨c, 0, none⟩), .int .i64 m, .agg A0.toArray, .int .i64 ix, .bool p, undef, .pointer (some ⟨c, 0, none⟩), .int .i64 m, .agg A1.toArray, .int .i64 ix, .bool q, undef, undef, undef, undef, undef, undef, undef, undef, undef, undef, undef, undef, undef, undef, undef, undef, undef, undef, undef, undef, undef, undef, undef, undef, undef], defers := [] } : Act) _
        refine take_two 5 12 rfl rfl rfl rfl (by kernel_rfl) ?_ ?_
        · refine wp_contract 11 [.tmp 23, .tmp 24, .tmp 25, .tmp 26, .tmp 27] _ rfl (enters_of Tryd.func11 (by kernel_rfl) rfl) [.pointer (some ⟨c, 0, none⟩), .int .i64 m, .agg A0.toArray, .int .i64 ix, .bool p] rfl (CE1.out c h r f _ (HS.out.next hH).cc (HS.out.next hH).tab) ?_
          rintro e X127 ⟨rfl, hY1, b5⟩
          replace HA13 : Hid (Bk .u8 X127 N2 72 (fun _ => 0)) := HA13.out.next b5
          refine ⟨_, rfl, hH.trans (b5.mono hH.size), fun hH => ?_⟩
          clear b5
          show wpAnyH _ _ _ _ _ _ _ ({ tmps := #[.int .i64 m, .agg A0.toArray, .agg A1.toArray, .int .i64 ix, .bool p, .bool q, undef, .pointer (some ⟨B, 0, none⟩), .pointer (some ⟨B + 1, 0, none⟩), undef, undef, undef, .bool false, .pointer (some ⟨c, 0, none⟩), undef, .pointer (some ⟨N2, 0, none⟩), undef, .pointer (some ⟨c, 0, none⟩), .pointer (some ⟨c, 0, none⟩), .bool false, .int .i64 m, .bool true, .bool false, .pointer (some ⟨c, 0, none⟩), .int .i64 m, .agg A0.toArray, .int .i64 ix, .bool p, .agg E1.toArray, .pointer (some ⟨c, 0, none⟩), .int .i64 m, .agg A1.toArray, .int .i64 ix, .bool q, undef, undef, undef, undef, undef, undef, undef, undef, undef, undef, undef, undef, undef, undef, undef, undef, undef, undef, undef, undef, undef, undef, undef, undef, undef], defers := [] } : Act) _
          refine take_two 11 12 rfl rfl rfl rfl (by kernel_rfl) ?_ ?_
          · refine wp_contract 11 [.tmp 29, .tmp 30, .tmp 31, .tmp 32, .tmp 33] _ rfl (enters_of Tryd.func11 (by kernel_rfl) rfl) [.pointer (some ⟨c, 0, none⟩), .int .i64 m, .agg A1.toArray, .int .i64 ix, .bool q] rfl (CE2.out c h r f _ (HS.out.next hH).cc (HS.out.next hH).tab) ?_
            rintro e X128 ⟨rfl, hY2, b5⟩
            replace HA13 : Hid (Bk .u8 X128 N2 72 (fun _ => 0)) := HA13.out.next b5
            refine ⟨_, rfl, hH.trans (b5.mono hH.size), fun hH => ?_⟩
            clear b5
            show wpAnyH _ _ _ _ _ _ _ ({ tmps := #[.int .i64 m, .agg A0.toArray, .agg A1.toArray, .int .i64 ix, .bool p, .bool q, undef, .pointer (some ⟨B, 0, none⟩), .pointer (some ⟨B + 1, 0, none⟩), undef, undef, undef, .bool false, .pointer (some ⟨c, 0, none⟩), undef, .pointer (some ⟨N2, 0, none⟩), undef, .pointer (some ⟨c, 0, none⟩), .pointer (some ⟨c, 0, none⟩), .bool false, .int .i64 m, .bool true, .bool false, .pointer (some ⟨c, 0, none⟩), .int .i64 m, .agg A0.toArray, .int .i64 ix, .bool p, .agg E1.toArray, .pointer (some ⟨c, 0, none⟩), .int .i64 m, .agg A1.toArray, .int .i64 ix, .bool q, .agg E2.toArray, undef, undef, undef, undef, undef, undef, undef, undef, undef, undef, undef, undef, undef, undef, undef, undef, undef, undef, undef, undef, undef, undef, undef, undef], defers := [] } : Act) _
            refine take_one 12 rfl rfl (by kernel_rfl) ?_
            refine wp_alloc_agg 25 rfl _ hz ?_
            obtain ⟨N1, hNe⟩ : ∃ N, (X128).heap.size = N := ⟨_, rfl⟩
            obtain ⟨X129, hX129⟩ : ∃ V, (X128).alloc (.cells ZR 25) = V := ⟨_, rfl⟩
            have b5 : Below (X128).heap.size (X128) X129 := by rw [← hX129]; exact (Below.refl _ _).alloc (Nat.le_refl _) _
            have n12 : N1 ≠ N2 := by have := HA13.out.lt; omega
            have lN1 : V2.heap.size ≤ N1 := by rw [← hNe]; exact hH.size
            replace HA13 : Hid (Bk .u8 X129 N2 72 (fun _ => 0)) := HA13.out.next b5
            have HA12 : Hid (Bk .u8 X129 N1 72 (fun _ => 0)) := by rw [← hX129, ← hNe, ← HZ.out.1]; exact Bk.new .u8 _ 72 (fun _ => 0) _
            rw [hNe, hX129]
            refine ⟨hH.trans (b5.mono hH.size), fun hH => ?_⟩
            clear b5 hNe hX129
            show wpAnyH _ _ _ _ _ _ _ ({ tmps := #[.int .i64 m, .agg A0.toArray, .agg A1.toArray, .int .i64 ix, .bool p, .bool q, undef, .pointer (some ⟨B, 0, none⟩), .pointer (some ⟨B + 1, 0, none⟩), undef, undef, undef, .bool false, .pointer (some ⟨c, 0, none⟩), .pointer (some ⟨N1, 0, none⟩), .pointer (some ⟨N2, 0, none⟩), undef, .pointer (some ⟨c, 0, none⟩), .pointer (some ⟨c, 0, none⟩), .bool false, .int .i64 m, .bool true, .bool false, .pointer (some ⟨c, 0, none⟩), .int .i64 m, .agg A0.toArray, .int .i64 ix, .bool p, .agg E1.toArray, .pointer (some ⟨c, 0, none⟩), .int .i64 m, .agg A1.toArray, .int .i64 ix, .bool q, .agg E2.toArray, undef, undef, undef, undef, undef, undef, undef, undef, undef, undef, undef, undef, undef, undef, undef, undef, undef, undef, undef, undef, undef, undef, undef, undef], defers := [] } : Act) _
            refine take_one 14 rfl rfl (by kernel_rfl) ?_
            refine wp_store_mid 25 _ _ rfl N1 0 E1.toArray rfl rfl (by rw [← HE.out.1]; exact HA12.out.there .u8 X1) jE1 oE1 ?_
            have hpN1 := HA12.out.put X1
            rw [show ints .u8 72 X1 = E1 from HE.out.1] at hpN1
            replace HA13 := HA13.out.putOther (c := N1) n12.symm 0 E1
            have HA132 : Hid (Bk .u8 _ N2 72 (fun _ => 0)) := HA13
            replace HA13 := HA132
            clear HA132
            refine ⟨belows_put lN1 _ 0 hH, fun hH => ?_⟩
            show wpAnyH _ _ _ _ _ _ _ ({ tmps := #[.int .i64 m, .agg A0.toArray, .agg A1.toArray, .int .i64 ix, .bool p, .bool q, undef, .pointer (some ⟨B, 0, none⟩), .pointer (some ⟨B + 1, 0, none⟩), undef, undef, undef, .bool false, .pointer (some ⟨c, 0, none⟩), .pointer (some ⟨N1, 0, none⟩), .pointer (some ⟨N2, 0, none⟩), undef, .pointer (some ⟨c, 0, none⟩), .pointer (some ⟨c, 0, none⟩), .bool false, .int .i64 m, .bool true, .bool false, .pointer (some ⟨c, 0, none⟩), .int .i64 m, .agg A0.toArray, .int .i64 ix, .bool p, .agg E1.toArray, .pointer (some ⟨c, 0, none⟩), .int .i64 m, .agg A1.toArray, .int .i64 ix, .bool q, .agg E2.toArray, undef, undef, undef, undef, undef, undef, undef, undef, undef, undef, undef, undef, undef, undef, undef, undef, undef, undef, undef, undef, undef, undef, undef, undef], defers := [] } : Act) _
            refine take_one 15 rfl rfl (by kernel_rfl) ?_
            refine wp_store_mid 25 _ _ rfl N2 0 E2.toArray rfl rfl (by rw [← HE.out.2]; exact HA13.out.there .u8 X2) jE2 oE2 ?_
            have hpN2 := HA13.out.put X2
            rw [show ints .u8 72 X2 = E2 from HE.out.2] at hpN2
            have hpN1 := hpN1.putOther (c := N2) n12 0 E2
            refine ⟨belows_put lN2 _ 0 hH, fun hH => ?_⟩
            show wpAnyH _ _ _ _ _ _ _ ({ tmps := #[.int .i64 m, .agg A0.toArray, .agg A1.toArray, .int .i64 ix, .bool p, .bool q, undef, .pointer (some ⟨B, 0, none⟩), .pointer (some ⟨B + 1, 0, none⟩), undef, undef, undef, .bool false, .pointer (some ⟨c, 0, none⟩), .pointer (some ⟨N1, 0, none⟩), .pointer (some ⟨N2, 0, none⟩), undef, .pointer (some ⟨c, 0, none⟩), .pointer (some ⟨c, 0, none⟩), .bool false, .int .i64 m, .bool true, .bool false, .pointer (some ⟨c, 0, none⟩), .int .i64 m, .agg A0.toArray, .int .i64 ix, .bool p, .agg E1.toArray, .pointer (some ⟨c, 0, none⟩), .int .i64 m, .agg A1.toArray, .int .i64 ix, .bool q, .agg E2.toArray, undef, undef, undef, undef, undef, undef, undef, undef, undef, undef, undef, undef, undef, undef, undef, undef, undef, undef, undef, undef, undef, undef, undef, undef], defers := [] } : Act) _
            exact wpAnyH_done (by kernel_rfl) ⟨N1, N2, rfl, hpN1, hpN2, hH, hY1, hY2⟩ _
          · refine wp_alloc_agg 25 rfl _ hz ?_
            obtain ⟨N1, hNe⟩ : ∃ N, (X127).heap.size = N := ⟨_, rfl⟩
            obtain ⟨X130, hX130⟩ : ∃ V, (X127).alloc (.cells ZR 25) = V := ⟨_, rfl⟩
            have b5 : Below (X127).heap.size (X127) X130 := by rw [← hX130]; exact (Below.refl _ _).alloc (Nat.le_refl _) _
            have n12 : N1 ≠ N2 := by have := HA13.out.lt; omega
            have lN1 : V2.heap.size ≤ N1 := by rw [← hNe]; exact hH.size
            replace HA13 : Hid (Bk .u8 X130 N2 72 (fun _ => 0)) := HA13.out.next b5
            have HA12 : Hid (Bk .u8 X130 N1 72 (fun _ => 0)) := by rw [← hX130, ← hNe, ← HZ.out.1]; exact Bk.new .u8 _ 72 (fun _ => 0) _
            rw [hNe, hX130]
            refine ⟨hH.trans (b5.mono hH.size), fun hH => ?_⟩
            clear b5 hNe hX130
            show wpAnyH _ _ _ _ _ _ _ ({ tmps := #[.int .i64 m, .agg A0.toArray, .agg A1.toArray, .int .i64 ix, .bool p, .bool q, undef, .pointer (some ⟨B, 0, none⟩), .pointer (some ⟨B + 1, 0, none⟩), undef, undef, undef, .bool false, .pointer (some ⟨c, 0, none⟩), .pointer (some ⟨N1, 0, none⟩), .pointer (some ⟨N2, 0, none⟩), undef, .pointer (some ⟨c, 0, none⟩), .pointer (some ⟨c, 0, none⟩), .bool false, .int .i64 m, .bool true, .bool false, .pointer (some ⟨c, 0, none⟩), .int .i64 m, .agg A0.toArray, .int .i64 ix, .bool p, .agg E1.toArray, .pointer (some ⟨c, 0, none⟩), .int .i64 m, .agg A1.toArray, .int .i64 ix, .bool q, undef, undef, undef, undef, undef, undef, undef, undef, undef, undef, undef, undef, undef, undef, undef, undef, undef, undef, undef, undef, undef, undef, undef, undef, undef], defers := [] } : Act) _
            refine take_one 11 rfl rfl (by kernel_rfl) ?_
            refine wp_contract 11 [.tmp 29, .tmp 30, .tmp 31, .tmp 32, .tmp 33] _ rfl (enters_of Tryd.func11 (by kernel_rfl) rfl) [.pointer (some ⟨c, 0, none⟩), .int .i64 m, .agg A1.toArray, .int .i64 ix, .bool q] rfl (CE2.out c h r f _ (HS.out.next hH).cc (HS.out.next hH).tab) ?_
            rintro e X131 ⟨rfl, hY2, b5⟩
            replace HA12 : Hid (Bk .u8 X131 N1 72 (fun _ => 0)) := HA12.out.next b5
            replace HA13 : Hid (Bk .u8 X131 N2 72 (fun _ => 0)) := HA13.out.next b5
            refine ⟨_, rfl, hH.trans (b5.mono hH.size), fun hH => ?_⟩
            clear b5
            show wpAnyH _ _ _ _ _ _ _ ({ tmps := #[.int .i64 m, .agg A0.toArray, .agg A1.toArray, .int .i64 ix, .bool p, .bool q, undef, .pointer (some ⟨B, 0, none⟩), .pointer (some ⟨B + 1, 0, none⟩), undef, undef, undef, .bool false, .pointer (some ⟨c, 0, none⟩), .pointer (some ⟨N1, 0, none⟩), .pointer (some ⟨N2, 0, none⟩), undef, .pointer (some ⟨c, 0, none⟩), .pointer (some ⟨c, 0, none⟩), .bool false, .int .i64 m, .bool true, .bool false, .pointer (some ⟨c, 0, none⟩), .int .i64 m, .agg A0.toArray, .int .i64 ix, .bool p, .agg E1.toArray, .pointer (some ⟨c, 0, none⟩), .int .i64 m, .agg A1.toArray, .int .i64 ix, .bool q, .agg E2.toArray, undef, undef, undef, undef, undef, undef, undef, undef, undef, undef, undef, undef, undef, undef, undef, undef, undef, undef, undef, undef, undef, undef, undef, undef], defers := [] } : Act) _
            refine take_one 14 rfl rfl (by kernel_rfl) ?_
            refine wp_store_mid 25 _ _ rfl N1 0 E1.toArray rfl rfl (by rw [← HE.out.1]; exact HA12.out.there .u8 X1) jE1 oE1 ?_
            have hpN1 := HA12.out.put X1
            rw [show ints .u8 72 X1 = E1 from HE.out.1] at hpN1
            replace HA13 := HA13.out.putOther (c := N1) n12.symm 0 E1
            have HA132 : Hid (Bk .u8 _ N2 72 (fun _ => 0)) := HA13
            replace HA13 := HA132
            clear HA132
            refine ⟨belows_put lN1 _ 0 hH, fun hH => ?_⟩
            show wpAnyH _ _ _ _ _ _ _ ({ tmps := #[.int .i64 m, .agg A0.toArray, .agg A1.toArray, .int .i64 ix, .bool p, .bool q, undef, .pointer (some ⟨B, 0, none⟩), .pointer (some ⟨B + 1, 0, none⟩), undef, undef, undef, .bool false, .pointer (some ⟨c, 0, none⟩), .pointer (some ⟨N1, 0, none⟩), .pointer (some ⟨N2, 0, none⟩), undef, .pointer (some ⟨c, 0, none⟩), .pointer (some ⟨c, 0, none⟩), .bool false, .int .i64 m, .bool true, .bool false, .pointer (some ⟨c, 0, none⟩), .int .i64 m, .agg A0.toArray, .int .i64 ix, .bool p, .agg E1.toArray, .pointer (some ⟨c, 0, none⟩), .int .i64 m, .agg A1.toArray, .int .i64 ix, .bool q, .agg E2.toArray, undef, undef, undef, undef, undef, undef, undef, undef, undef, undef, undef, undef, undef, undef, undef, undef, undef, undef, undef, undef, undef, undef, undef, undef], defers := [] } : Act) _
            refine take_one 15 rfl rfl (by kernel_rfl) ?_
            refine wp_store_mid 25 _ _ rfl N2 0 E2.toArray rfl rfl (by rw [← HE.out.2]; exact HA13.out.there .u8 X2) jE2 oE2 ?_
            have hpN2 := HA13.out.put X2
            rw [show ints .u8 72 X2 = E2 from HE.out.2] at hpN2
            have hpN1 := hpN1.putOther (c := N2) n12 0 E2
            refine ⟨belows_put lN2 _ 0 hH, fun hH => ?_⟩
            show wpAnyH _ _ _ _ _ _ _ ({ tmps := #[.int .i64 m, .agg A0.toArray, .agg A1.toArray, .int .i64 ix, .bool p, .bool q, undef, .pointer (some ⟨B, 0, none⟩), .pointer (some ⟨B + 1, 0, none⟩), undef, undef, undef, .bool false, .pointer (some ⟨c, 0, none⟩), .pointer (some ⟨N1, 0, none⟩), .pointer (some ⟨N2, 0, none⟩), undef, .pointer (some ⟨c, 0, none⟩), .pointer (some ⟨c, 0, none⟩), .bool false, .int .i64 m, .bool true, .bool false, .pointer (some ⟨c, 0, none⟩), .int .i64 m, .agg A0.toArray, .int .i64 ix, .bool p, .agg E1.toArray, .pointer (some ⟨c, 0, none⟩), .int .i64 m, .agg A1.toArray, .int .i64 ix, .bool q, .agg E2.toArray, undef, undef, undef, undef, undef, undef, undef, undef, undef, undef, undef, undef, undef, undef, undef, undef, undef, undef, undef, undef, undef, undef, undef, undef], defers := [] } : Act) _
            exact wpAnyH_done (by kernel_rfl) ⟨N1, N2, rfl, hpN1, hpN2, hH, hY1, hY2⟩ _
        · refine wp_alloc_agg 25 rfl _ hz ?_
          obtain ⟨N1, hNe⟩ : ∃ N, (X126).heap.size = N := ⟨_, rfl⟩
          obtain ⟨X132, hX132⟩ : ∃ V, (X126).alloc (.cells ZR 25) = V := ⟨_, rfl⟩
          have b5 : Below (X126).heap.size (X126) X132 := by rw [← hX132]; exact (Below.refl _ _).alloc (Nat.le_refl _) _
          have n12 : N1 ≠ N2 := by have := HA13.out.lt; omega
          have lN1 : V2.heap.size ≤ N1 := by rw [← hNe]; exact hH.size
          replace HA13 : Hid (Bk .u8 X132 N2 72 (fun _ => 0)) := HA13.out.next b5
          have HA12 : Hid (Bk .u8 X132 N1 72 (fun _ => 0)) := by rw [← hX132, ← hNe, ← HZ.out.1]; exact Bk.new .u8 _ 72 (fun _ => 0) _
          rw [hNe, hX132]
          refine ⟨hH.trans (b5.mono hH.size), fun hH => ?_⟩
          clear b5 hNe hX132
          show wpAnyH _ _ _ _ _ _ _ ({ tmps := #[.int .i64 m, .agg A0.toArray, .agg A1.toArray, .int .i64 ix, .bool p, .bool q, undef, .pointer (some ⟨B, 0, none⟩), .pointer (some ⟨B + 1, 0, none⟩), undef, undef, undef, .bool false, .pointer (some ⟨c, 0, none⟩), .pointer (some ⟨N1, 0, none⟩), .pointer (some ⟨N2, 0, none⟩), undef, .pointer (some ⟨c, 0, none⟩), .pointer (some ⟨c, 0, none⟩), .bool false, .int .i64 m, .bool true, .bool false, .pointer (some ⟨c, 0, none⟩), .int .i64 m, .agg A0.toArray, .int .i64 ix, .bool p, undef, .pointer (some ⟨c, 0, none⟩), .int .i64 m, .agg A1.toArray, .int .i64 ix, .bool q, undef, undef, undef, undef, undef, undef, undef, undef, undef, undef, undef, undef, undef, undef, undef, undef, undef, undef, undef, undef, undef, undef, undef, undef, undef], defers := [] } : Act) _
          refine take_one 5 rfl rfl (by kernel_rfl) ?_
          refine wp_contract 11 [.tmp 23, .tmp 24, .tmp 25, .tmp 26, .tmp 27] _ rfl (enters_of Tryd.func11 (by kernel_rfl) rfl) [.pointer (some ⟨c, 0, none⟩), .int .i64 m, .agg A0.toArray, .int .i64 ix, .bool p] rfl (CE1.out c h r f _ (HS.out.next hH).cc (HS.out.next hH).tab) ?_
          rintro e X133 ⟨rfl, hY1, b5⟩
          replace HA12 : Hid (Bk .u8 X133 N1 72 (fun _ => 0)) := HA12.out.next b5
          replace HA13 : Hid (Bk .u8 X133 N2 72 (fun _ => 0)) := HA13.out.next b5
          refine ⟨_, rfl, hH.trans (b5.mono hH.size), fun hH => ?_⟩
          clear b5
          show wpAnyH _ _ _ _ _ _ _ ({ tmps := #[.int .i64 m, .agg A0.toArray, .agg A1.toArray, .int .i64 ix, .bool p, .bool q, undef, .pointer (some ⟨B, 0, none⟩), .pointer (some ⟨B + 1, 0, none⟩), undef, undef, undef, .bool false, .pointer (some ⟨c, 0, none⟩), .pointer (some ⟨N1, 0, none⟩), .pointer (some ⟨N2, 0, none⟩), undef, .pointer (some ⟨c, 0, none⟩), .pointer (some ⟨c, 0, none⟩), .bool false, .int .i64 m, .bool true, .bool false, .pointer (some ⟨c, 0, none⟩), .int .i64 m, .agg A0.toArray, .int .i64 ix, .bool p, .agg E1.toArray, .pointer (some ⟨c, 0, none⟩), .int .i64 m, .agg A1.toArray, .int .i64 ix, .bool q, undef, undef, undef, undef, undef, undef, undef, undef, undef, undef, undef, undef, undef, undef, undef, undef, undef, undef, undef, undef, undef, undef, undef, undef, undef], defers := [] } : Act) _
          refine take_one 11 rfl rfl (by kernel_rfl) ?_
          refine wp_contract 11 [.tmp 29, .tmp 30, .tmp 31, .tmp 32, .tmp 33] _ rfl (enters_of Tryd.func11 (by kernel_rfl) rfl) [.pointer (some ⟨c, 0, none⟩), .int .i64 m, .agg A1.toArray, .int .i64 ix, .bool q] rfl (CE2.out c h r f _ (HS.out.next hH).cc (HS.out.next hH).tab) ?_
          rintro e X134 ⟨rfl, hY2, b5⟩
          replace HA12 : Hid (Bk .u8 X134 N1 72 (fun _ => 0)) := HA12.out.next b5
          replace HA13 : Hid (Bk .u8 X134 N2 72 (fun _ => 0)) := HA13.out.next b5
          refine ⟨_, rfl, hH.trans (b5.mono hH.size), fun hH => ?_⟩
          clear b5
          show wpAnyH _ _ _ _ _ _ _ ({ tmps := #[.int .i64 m, .agg A0.toArray, .agg A1.toArray, .int .i64 ix, .bool p, .bool q, undef, .pointer (some ⟨B, 0, none⟩), .pointer (some ⟨B + 1, 0, none⟩), undef, undef, undef, .bool false, .pointer (some ⟨c, 0, none⟩), .pointer (some ⟨N1, 0, none⟩), .pointer (some ⟨N2, 0, none⟩), undef, .pointer (some ⟨c, 0, none⟩), .pointer (some ⟨c, 0, none⟩), .bool false, .int .i64 m, .bool true, .bool false, .pointer (some ⟨c, 0, none⟩), .int .i64 m, .agg A0.toArray, .int .i64 ix, .bool p, .agg E1.toArray, .pointer (some ⟨c, 0, none⟩), .int .i64 m, .agg A1.toArray, .int .i64 ix, .bool q, .agg E2.toArray, undef, undef, undef, undef, undef, undef, undef, undef, undef, undef, undef, undef, undef, undef, undef, undef, undef, undef, undef, undef, undef, undef, undef, undef], defers := [] } : Act) _
          refine take_one 14 rfl rfl (by kernel_rfl) ?_
          refine wp_store_mid 25 _ _ rfl N1 0 E1.toArray rfl rfl (by rw [← HE.out.1]; exact HA12.out.there .u8 X1) jE1 oE1 ?_
          have hpN1 := HA12.out.put X1
          rw [show ints .u8 72 X1 = E1 from HE.out.1] at hpN1
          replace HA13 := HA13.out.putOther (c := N1) n12.symm 0 E1
          have HA132 : Hid (Bk .u8 _ N2 72 (fun _ => 0)) := HA13
          replace HA13 := HA132
          clear HA132
          refine ⟨belows_put lN1 _ 0 hH, fun hH => ?_⟩
          show wpAnyH _ _ _ _ _ _ _ ({ tmps := #[.int .i64 m, .agg A0.toArray, .agg A1.toArray, .int .i64 ix, .bool p, .bool q, undef, .pointer (some ⟨B, 0, none⟩), .pointer (some ⟨B + 1, 0, none⟩), undef, undef, undef, .bool false, .pointer (some ⟨c, 0, none⟩), .pointer (some ⟨N1, 0, none⟩), .pointer (some ⟨N2, 0, none⟩), undef, .pointer (some ⟨c, 0, none⟩), .pointer (some ⟨c, 0, none⟩), .bool false, .int .i64 m, .bool true, .bool false, .pointer (some ⟨c, 0, none⟩), .int .i64 m, .agg A0.toArray, .int .i64 ix, .bool p, .agg E1.toArray, .pointer (some ⟨c, 0, none⟩), .int .i64 m, .agg A1.toArray, .int .i64 ix, .bool q, .agg E2.toArray, undef, undef, undef, undef, undef, undef, undef, undef, undef, undef, undef, undef, undef, undef, undef, undef, undef, undef, undef, undef, undef, undef, undef, undef], defers := [] } : Act) _
          refine take_one 15 rfl rfl (by kernel_rfl) ?_
          refine wp_store_mid 25 _ _ rfl N2 0 E2.toArray rfl rfl (by rw [← HE.out.2]; exact HA13.out.there .u8 X2) jE2 oE2 ?_
          have hpN2 := HA13.out.put X2
          rw [show ints .u8 72 X2 = E2 from HE.out.2] at hpN2
          have hpN1 := hpN1.putOther (c := N2) n12 0 E2
          refine ⟨belows_put lN2 _ 0 hH, fun hH => ?_⟩
          show wpAnyH _ _ _ _ _ _ _ ({ tmps := #[.int .i64 m, .agg A0.toArray, .agg A1.toArray, .int .i64 ix, .bool p, .bool q, undef, .pointer (some ⟨B, 0, none⟩), .pointer (some ⟨B + 1, 0, none⟩), undef, undef, undef, .bool false, .pointer (some ⟨c, 0, none⟩), .pointer (some ⟨N1, 0, none⟩), .pointer (some ⟨N2, 0, none⟩), undef, .pointer (some ⟨c, 0, none⟩), .pointer (some ⟨c, 0, none⟩), .bool false, .int .i64 m, .bool true, .bool false, .pointer (some ⟨c, 0, none⟩), .int .i64 m, .agg A0.toArray, .int .i64 ix, .bool p, .agg E1.toArray, .pointer (some ⟨c, 0, none⟩), .int .i64 m, .agg A1.toArray, .int .i64 ix, .bool q, .agg E2.toArray, undef, undef, undef, undef, undef, undef, undef, undef, undef, undef, undef, undef, undef, undef, undef, undef, undef, undef, undef, undef, undef, undef, undef, undef], defers := [] } : Act) _
          exact wpAnyH_done (by kernel_rfl) ⟨N1, N2, rfl, hpN1, hpN2, hH, hY1, hY2⟩ _
    case aft =>
      obtain ⟨N1, N2, rfl, hb1, hb2, hbl, hy1, hy2⟩ := hr
      have HEN : Hid (Enc m F ix p X1 ∧ Enc m G ix q X2) := ⟨hy1, hy2⟩
      clear hy1 hy2
      have h1 := hb1.at9
      have h2 := hb2.at9
      rw [HE.out.1] at h1
      rw [HE.out.2] at h2
      have HS2 : Hid (LwS c h r f [(N1, E1), (N2, E2), (B, A0), (B + 1, A1)] w V3) := LwS.cons (LwS.cons (HS.out.next hbl) h2) h1
      clear hb1 hb2 hbl h1 h2 HS CE1 CE2 cM V2
      have r0 := (HS2.out.rs (B, A0) (by simp)).r
      have r1 := (HS2.out.rs (B + 1, A1) (by simp)).r
      have r2 := (HS2.out.rs (N1, E1) (by simp)).r
      have r3 := (HS2.out.rs (N2, E2) (by simp)).r
      have HB : Hid (Below w.heap.size w V3) := HS2.out.below
      by_cases hl : F = G
      · have eL := EL.out true ⟨fun _ i _ => by rw [hl], fun _ => rfl⟩
        by_cases hpq : p = q
        · have eR := ER.out true ⟨fun _ i _ => by rw [HXS.out hl hpq], fun _ => rfl⟩
          subst hpq
          clear HXS HX HF HFG EL ER HE HM HEN HS2 hl
          cases p
          · go_wp2_with (first | refine wpList_load_mid rfl 23 _ rfl B 0 rfl A0 _ r0 Tryd.underlying23 rfl iA0 ?_ | refine wpList_load_mid rfl 23 _ rfl (B + 1) 0 rfl A1 _ r1 Tryd.underlying23 rfl iA1 ?_ | refine wpList_load_mid rfl 25 _ rfl N1 0 rfl E1 _ r2 Tryd.underlying25 rfl iE1 ?_ | refine wpList_load_mid rfl 25 _ rfl N2 0 rfl E2 _ r3 Tryd.underlying25 rfl iE2 ?_)
            go_ret
            exact ⟨rfl, by first | exact HB.out | (rw [← hB]; exact HB.out)⟩
          · go_wp2_with (first | refine wpList_load_mid rfl 23 _ rfl B 0 rfl A0 _ r0 Tryd.underlying23 rfl iA0 ?_ | refine wpList_load_mid rfl 23 _ rfl (B + 1) 0 rfl A1 _ r1 Tryd.underlying23 rfl iA1 ?_ | refine wpList_load_mid rfl 25 _ rfl N1 0 rfl E1 _ r2 Tryd.underlying25 rfl iE1 ?_ | refine wpList_load_mid rfl 25 _ rfl N2 0 rfl E2 _ r3 Tryd.underlying25 rfl iE2 ?_)
            go_ret
            exact ⟨rfl, by first | exact HB.out | (rw [← hB]; exact HB.out)⟩
        · have hu : (∃ i, i < 64 ∧ F i ≠ G i) ∨ p ≠ q := .inr hpq
          have cX : Hid (∀ W : World, Calls Tryd.prog 12 #[.int .i64 m, .agg E1.toArray, .agg E2.toArray] W fun e w' => e = .returned (.int .i64 (Rw.mx m X1 X2 n k : Int)) ∧ Below W.heap.size W w') := fun W => by
            have := refExposure_any HM.out.md X1 X2 HF.out.2.2.1 HF.out.2.2.2 W
            rw [HE.out.1, HE.out.2] at this; exact this
          have hx := apart10 (ix := ix) (p := p) (q := q) HM.out HF.out.1 HF.out.2.1 HEN.out.1 HEN.out.2 hu
          obtain ⟨x, hx0⟩ : ∃ x, Rw.mx m X1 X2 n k = x := ⟨_, rfl⟩
          rw [hx0] at cX hx
          clear hx0 hu hl HXS HX HF HFG EL ER HE HM HEN
          rw [if_neg hpq] at hx
          cases p <;> cases q <;> first | exact absurd rfl hpq | skip
          all_goals clear hpq
          · rcases hm with rfl | rfl
            · skip
              replace hx : (3 : Int) ≤ (x : Int) := by omega
              clear HS2
              go_wp2_with (first | refine wpList_load_mid rfl 23 _ rfl B 0 rfl A0 _ r0 Tryd.underlying23 rfl iA0 ?_ | refine wpList_load_mid rfl 23 _ rfl (B + 1) 0 rfl A1 _ r1 Tryd.underlying23 rfl iA1 ?_ | refine wpList_load_mid rfl 25 _ rfl N1 0 rfl E1 _ r2 Tryd.underlying25 rfl iE1 ?_ | refine wpList_load_mid rfl 25 _ rfl N2 0 rfl E2 _ r3 Tryd.underlying25 rfl iE2 ?_ | (go_at_call 12; refine (cX.out _).mono ?_; rintro e V9 ⟨rfl, b9⟩; have HB9 : Hid (Below w.heap.size w V9) := HB.out.trans (b9.mono HB.out.size); clear b9 HB))
              go_ret
              exact ⟨rfl, by first | exact HB9.out | (rw [← hB]; exact HB9.out)⟩
            · skip
              replace hx : (4 : Int) ≤ (x : Int) := by omega
              clear HS2
              go_wp2_with (first | refine wpList_load_mid rfl 23 _ rfl B 0 rfl A0 _ r0 Tryd.underlying23 rfl iA0 ?_ | refine wpList_load_mid rfl 23 _ rfl (B + 1) 0 rfl A1 _ r1 Tryd.underlying23 rfl iA1 ?_ | refine wpList_load_mid rfl 25 _ rfl N1 0 rfl E1 _ r2 Tryd.underlying25 rfl iE1 ?_ | refine wpList_load_mid rfl 25 _ rfl N2 0 rfl E2 _ r3 Tryd.underlying25 rfl iE2 ?_ | (go_at_call 12; refine (cX.out _).mono ?_; rintro e V9 ⟨rfl, b9⟩; have HB9 : Hid (Below w.heap.size w V9) := HB.out.trans (b9.mono HB.out.size); clear b9 HB))
              go_ret
              exact ⟨rfl, by first | exact HB9.out | (rw [← hB]; exact HB9.out)⟩
          · rcases hm with rfl | rfl
            · skip
              replace hx : (3 : Int) ≤ (x : Int) := by omega
              clear HS2
              go_wp2_with (first | refine wpList_load_mid rfl 23 _ rfl B 0 rfl A0 _ r0 Tryd.underlying23 rfl iA0 ?_ | refine wpList_load_mid rfl 23 _ rfl (B + 1) 0 rfl A1 _ r1 Tryd.underlying23 rfl iA1 ?_ | refine wpList_load_mid rfl 25 _ rfl N1 0 rfl E1 _ r2 Tryd.underlying25 rfl iE1 ?_ | refine wpList_load_mid rfl 25 _ rfl N2 0 rfl E2 _ r3 Tryd.underlying25 rfl iE2 ?_ | (go_at_call 12; refine (cX.out _).mono ?_; rintro e V9 ⟨rfl, b9⟩; have HB9 : Hid (Below w.heap.size w V9) := HB.out.trans (b9.mono HB.out.size); clear b9 HB))
              go_ret
              exact ⟨rfl, by first | exact HB9.out | (rw [← hB]; exact HB9.out)⟩
            · skip
              replace hx : (4 : Int) ≤ (x : Int) := by omega
              clear HS2
              go_wp2_with (first | refine wpList_load_mid rfl 23 _ rfl B 0 rfl A0 _ r0 Tryd.underlying23 rfl iA0 ?_ | refine wpList_load_mid rfl 23 _ rfl (B + 1) 0 rfl A1 _ r1 Tryd.underlying23 rfl iA1 ?_ | refine wpList_load_mid rfl 25 _ rfl N1 0 rfl E1 _ r2 Tryd.underlying25 rfl iE1 ?_ | refine wpList_load_mid rfl 25 _ rfl N2 0 rfl E2 _ r3 Tryd.underlying25 rfl iE2 ?_ | (go_at_call 12; refine (cX.out _).mono ?_; rintro e V9 ⟨rfl, b9⟩; have HB9 : Hid (Below w.heap.size w V9) := HB.out.trans (b9.mono HB.out.size); clear b9 HB))
              go_ret
              exact ⟨rfl, by first | exact HB9.out | (rw [← hB]; exact HB9.out)⟩
      · have hne : ∃ i, i < 64 ∧ F i ≠ G i := HFG.out.resolve_left hl
        have eL := EL.out false ⟨fun e => absurd e (by decide), fun e => absurd (e _ hne.choose_spec.1) hne.choose_spec.2⟩
        have hu : (∃ i, i < 64 ∧ F i ≠ G i) ∨ p ≠ q := .inl hne
        clear hne
        by_cases hpq : p = q
        · skip
          have cX : Hid (∀ W : World, Calls Tryd.prog 12 #[.int .i64 m, .agg E1.toArray, .agg E2.toArray] W fun e w' => e = .returned (.int .i64 (Rw.mx m X1 X2 n k : Int)) ∧ Below W.heap.size W w') := fun W => by
            have := refExposure_any HM.out.md X1 X2 HF.out.2.2.1 HF.out.2.2.2 W
            rw [HE.out.1, HE.out.2] at this; exact this
          have hx := apart10 (ix := ix) (p := p) (q := q) HM.out HF.out.1 HF.out.2.1 HEN.out.1 HEN.out.2 hu
          obtain ⟨x, hx0⟩ : ∃ x, Rw.mx m X1 X2 n k = x := ⟨_, rfl⟩
          rw [hx0] at cX hx
          clear hx0 hu hl HXS HX HF HFG EL ER HE HM HEN
          rw [if_pos hpq] at hx
          subst hpq
          cases p <;> rcases hm with rfl | rfl
          · skip
            replace hx : (4 : Int) ≤ (x : Int) := by omega
            clear HS2
            go_wp2_with (first | refine wpList_load_mid rfl 23 _ rfl B 0 rfl A0 _ r0 Tryd.underlying23 rfl iA0 ?_ | refine wpList_load_mid rfl 23 _ rfl (B + 1) 0 rfl A1 _ r1 Tryd.underlying23 rfl iA1 ?_ | refine wpList_load_mid rfl 25 _ rfl N1 0 rfl E1 _ r2 Tryd.underlying25 rfl iE1 ?_ | refine wpList_load_mid rfl 25 _ rfl N2 0 rfl E2 _ r3 Tryd.underlying25 rfl iE2 ?_ | (go_at_call 12; refine (cX.out _).mono ?_; rintro e V9 ⟨rfl, b9⟩; have HB9 : Hid (Below w.heap.size w V9) := HB.out.trans (b9.mono HB.out.size); clear b9 HB))
            go_ret
            exact ⟨rfl, by first | exact HB9.out | (rw [← hB]; exact HB9.out)⟩
          · skip
            replace hx : (5 : Int) ≤ (x : Int) := by omega
            clear HS2
            go_wp2_with (first | refine wpList_load_mid rfl 23 _ rfl B 0 rfl A0 _ r0 Tryd.underlying23 rfl iA0 ?_ | refine wpList_load_mid rfl 23 _ rfl (B + 1) 0 rfl A1 _ r1 Tryd.underlying23 rfl iA1 ?_ | refine wpList_load_mid rfl 25 _ rfl N1 0 rfl E1 _ r2 Tryd.underlying25 rfl iE1 ?_ | refine wpList_load_mid rfl 25 _ rfl N2 0 rfl E2 _ r3 Tryd.underlying25 rfl iE2 ?_ | (go_at_call 12; refine (cX.out _).mono ?_; rintro e V9 ⟨rfl, b9⟩; have HB9 : Hid (Below w.heap.size w V9) := HB.out.trans (b9.mono HB.out.size); clear b9 HB))
            go_ret
            exact ⟨rfl, by first | exact HB9.out | (rw [← hB]; exact HB9.out)⟩
          · skip
            replace hx : (4 : Int) ≤ (x : Int) := by omega
            clear HS2
            go_wp2_with (first | refine wpList_load_mid rfl 23 _ rfl B 0 rfl A0 _ r0 Tryd.underlying23 rfl iA0 ?_ | refine wpList_load_mid rfl 23 _ rfl (B + 1) 0 rfl A1 _ r1 Tryd.underlying23 rfl iA1 ?_ | refine wpList_load_mid rfl 25 _ rfl N1 0 rfl E1 _ r2 Tryd.underlying25 rfl iE1 ?_ | refine wpList_load_mid rfl 25 _ rfl N2 0 rfl E2 _ r3 Tryd.underlying25 rfl iE2 ?_ | (go_at_call 12; refine (cX.out _).mono ?_; rintro e V9 ⟨rfl, b9⟩; have HB9 : Hid (Below w.heap.size w V9) := HB.out.trans (b9.mono HB.out.size); clear b9 HB))
            go_ret
            exact ⟨rfl, by first | exact HB9.out | (rw [← hB]; exact HB9.out)⟩
          · skip
            replace hx : (5 : Int) ≤ (x : Int) := by omega
            clear HS2
            go_wp2_with (first | refine wpList_load_mid rfl 23 _ rfl B 0 rfl A0 _ r0 Tryd.underlying23 rfl iA0 ?_ | refine wpList_load_mid rfl 23 _ rfl (B + 1) 0 rfl A1 _ r1 Tryd.underlying23 rfl iA1 ?_ | refine wpList_load_mid rfl 25 _ rfl N1 0 rfl E1 _ r2 Tryd.underlying25 rfl iE1 ?_ | refine wpList_load_mid rfl 25 _ rfl N2 0 rfl E2 _ r3 Tryd.underlying25 rfl iE2 ?_ | (go_at_call 12; refine (cX.out _).mono ?_; rintro e V9 ⟨rfl, b9⟩; have HB9 : Hid (Below w.heap.size w V9) := HB.out.trans (b9.mono HB.out.size); clear b9 HB))
            go_ret
            exact ⟨rfl, by first | exact HB9.out | (rw [← hB]; exact HB9.out)⟩
        · skip
          have cX : Hid (∀ W : World, Calls Tryd.prog 12 #[.int .i64 m, .agg E1.toArray, .agg E2.toArray] W fun e w' => e = .returned (.int .i64 (Rw.mx m X1 X2 n k : Int)) ∧ Below W.heap.size W w') := fun W => by
            have := refExposure_any HM.out.md X1 X2 HF.out.2.2.1 HF.out.2.2.2 W
            rw [HE.out.1, HE.out.2] at this; exact this
          have hx := apart10 (ix := ix) (p := p) (q := q) HM.out HF.out.1 HF.out.2.1 HEN.out.1 HEN.out.2 hu
          obtain ⟨x, hx0⟩ : ∃ x, Rw.mx m X1 X2 n k = x := ⟨_, rfl⟩
          rw [hx0] at cX hx
          clear hx0 hu hl HXS HX HF HFG EL ER HE HM HEN
          rw [if_neg hpq] at hx
          cases p <;> cases q <;> first | exact absurd rfl hpq | skip
          all_goals clear hpq
          · rcases hm with rfl | rfl
            · skip
              replace hx : (3 : Int) ≤ (x : Int) := by omega
              clear HS2
              go_wp2_with (first | refine wpList_load_mid rfl 23 _ rfl B 0 rfl A0 _ r0 Tryd.underlying23 rfl iA0 ?_ | refine wpList_load_mid rfl 23 _ rfl (B + 1) 0 rfl A1 _ r1 Tryd.underlying23 rfl iA1 ?_ | refine wpList_load_mid rfl 25 _ rfl N1 0 rfl E1 _ r2 Tryd.underlying25 rfl iE1 ?_ | refine wpList_load_mid rfl 25 _ rfl N2 0 rfl E2 _ r3 Tryd.underlying25 rfl iE2 ?_ | (go_at_call 12; refine (cX.out _).mono ?_; rintro e V9 ⟨rfl, b9⟩; have HB9 : Hid (Below w.heap.size w V9) := HB.out.trans (b9.mono HB.out.size); clear b9 HB))
              go_ret
              exact ⟨rfl, by first | exact HB9.out | (rw [← hB]; exact HB9.out)⟩
            · skip
              replace hx : (4 : Int) ≤ (x : Int) := by omega
              clear HS2
              go_wp2_with (first | refine wpList_load_mid rfl 23 _ rfl B 0 rfl A0 _ r0 Tryd.underlying23 rfl iA0 ?_ | refine wpList_load_mid rfl 23 _ rfl (B + 1) 0 rfl A1 _ r1 Tryd.underlying23 rfl iA1 ?_ | refine wpList_load_mid rfl 25 _ rfl N1 0 rfl E1 _ r2 Tryd.underlying25 rfl iE1 ?_ | refine wpList_load_mid rfl 25 _ rfl N2 0 rfl E2 _ r3 Tryd.underlying25 rfl iE2 ?_ | (go_at_call 12; refine (cX.out _).mono ?_; rintro e V9 ⟨rfl, b9⟩; have HB9 : Hid (Below w.heap.size w V9) := HB.out.trans (b9.mono HB.out.size); clear b9 HB))
              go_ret
              exact ⟨rfl, by first | exact HB9.out | (rw [← hB]; exact HB9.out)⟩
          · rcases hm with rfl | rfl
            · skip
              replace hx : (3 : Int) ≤ (x : Int) := by omega
              clear HS2
              go_wp2_with (first | refine wpList_load_mid rfl 23 _ rfl B 0 rfl A0 _ r0 Tryd.underlying23 rfl iA0 ?_ | refine wpList_load_mid rfl 23 _ rfl (B + 1) 0 rfl A1 _ r1 Tryd.underlying23 rfl iA1 ?_ | refine wpList_load_mid rfl 25 _ rfl N1 0 rfl E1 _ r2 Tryd.underlying25 rfl iE1 ?_ | refine wpList_load_mid rfl 25 _ rfl N2 0 rfl E2 _ r3 Tryd.underlying25 rfl iE2 ?_ | (go_at_call 12; refine (cX.out _).mono ?_; rintro e V9 ⟨rfl, b9⟩; have HB9 : Hid (Below w.heap.size w V9) := HB.out.trans (b9.mono HB.out.size); clear b9 HB))
              go_ret
              exact ⟨rfl, by first | exact HB9.out | (rw [← hB]; exact HB9.out)⟩
            · skip
              replace hx : (4 : Int) ≤ (x : Int) := by omega
              clear HS2
              go_wp2_with (first | refine wpList_load_mid rfl 23 _ rfl B 0 rfl A0 _ r0 Tryd.underlying23 rfl iA0 ?_ | refine wpList_load_mid rfl 23 _ rfl (B + 1) 0 rfl A1 _ r1 Tryd.underlying23 rfl iA1 ?_ | refine wpList_load_mid rfl 25 _ rfl N1 0 rfl E1 _ r2 Tryd.underlying25 rfl iE1 ?_ | refine wpList_load_mid rfl 25 _ rfl N2 0 rfl E2 _ r3 Tryd.underlying25 rfl iE2 ?_ | (go_at_call 12; refine (cX.out _).mono ?_; rintro e V9 ⟨rfl, b9⟩; have HB9 : Hid (Below w.heap.size w V9) := HB.out.trans (b9.mono HB.out.size); clear b9 HB))
              go_ret
              exact ⟨rfl, by first | exact HB9.out | (rw [← hB]; exact HB9.out)⟩
  · have hd : decide (m = 1 ∨ m = 2) = false := by simpa using hm
    rw [hd] at cM
    have HB : Hid (Below w.heap.size w V1) := HS.out.below
    clear hd hm
    go_wp2_with (go_at_call 10; refine (cM.out _).mono ?_; rintro e w' ⟨rfl, hw2⟩; rw [hw2]; clear hw2 w')
    go_ret
    exact ⟨rfl, by first | exact HB.out | (rw [← hB]; exact HB.out)⟩
theorem codecSame_walk (a0 : Int) (a1 a2 : Nat → Int) (a3 : Int) (a4 a5 : Bool) (_w0 : (Lit.int .i64 a0).wf = true) (w1 : ∀ i, i < 64 → (Lit.int .u8 (a1 i)).wf = true) (w2 : ∀ i, i < 64 → (Lit.int .u8 (a2 i)).wf = true) (_w3 : (Lit.int .i64 a3).wf = true) (w : World) (hT : TabW w) :
    Calls Tryd.prog 7 #[.int .i64 a0, .agg (ints .u8 64 a1).toArray, .agg (ints .u8 64 a2).toArray, .int .i64 a3, .bool a4, .bool a5] w fun e w' => e = .returned (.bool true) ∧ Below w.heap.size w w' := by
  by_cases h : ∀ i, i < 64 → a1 i = a2 i
  · rw [ints_congr .u8 64 a2 a1 fun i hi => (h i hi).symm]
    exact codecSame_core a0 a1 a1 (args_byts 64 a1 w1) (args_byts 64 a1 w1) (.inl rfl) a3 a4 a5 w hT
  · exact codecSame_core a0 a1 a2 (args_byts 64 a1 w1) (args_byts 64 a2 w2) (.inr (by
      apply Classical.byContradiction
      intro hn
      exact h fun i hi => Classical.byContradiction fun e => hn ⟨i, hi, e⟩)) a3 a4 a5 w hT
end Go.Proofs.YtdjknaafefnlcaaDoor
