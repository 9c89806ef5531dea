/-
  RsLocates.
-/
import Derived.Test.YtmkjdpokcfeieaaRsL2
namespace Go.Proofs.Ytmkjdpokcfeieaa
open Go.RowKit Go.Shelf
open Gf (gI eI dI lI)
open Po (El mu pwr ev S cf toE cv Low rts)
open Rm (al sy At IsCode)
attribute [local go_sem] Oper.semAt_some

/-- while RsLocates works: syndromes, a word, virtual symbols; the document's verdict in X -/
structure LoS (B c b X : Nat) (s F G : Nat → El) (x y z : Value) (w W : World) : Prop where
  s : Blk W B 4 s
  f : Blk W (B + 1) 36 F
  v : Blk W (B + 1 + 1) 3 G
  x : VdAt W X x y z
  code : CdAt W c b
  below : Below B w W
theorem LoS.next {B c b X : Nat} {s F G : Nat → El} {x y z : Value} {w W W' : World} (h : LoS B c b X s F G x y z w W) (k : Below W.heap.size W W') : LoS B c b X s F G x y z w W' :=
  ⟨h.s.next k, h.f.next k, h.v.next k, h.x.next k, h.code.next k, h.below.trans (k.mono (Nat.le_of_lt h.s.lt))⟩
theorem LoS.drew {B c b X : Nat} {s F G : Nat → El} {x y z : Value} {w W : World} (h : LoS B c b X s F G x y z w W) : LoS B c b X s F G x y z w W.drew := h.next (below_stay (Below.refl _ W) (Stay.drewN _ W 1) (Nat.le_refl _))
/-- then: the word, the data that are told, the verdict that is told, the document's -/
structure LpS (B T Y : Nat) (F D : Nat → El) (k p v : Int) (w W : World) : Prop where
  f : Blk W (B + 1) 36 F
  d : Arr W T 32 D
  q : VdAt W (T + 1) (.int .i64 k) (.int .i64 p) (.int .u8 v)
  y : VdAt W Y (.int .i64 k) (.int .i64 p) (.int .u8 v)
  below : Below B w W
theorem VdAt.drewN {W : World} {b : Nat} {x y z : Value} (h : VdAt W b x y z) (k : Nat) : VdAt (W.drewN k) b x y z := ⟨h.c0, h.c1, h.c2, h.f⟩
theorem LpS.drewN {B T Y : Nat} {F D : Nat → El} {k p v : Int} {w W : World} (h : LpS B T Y F D k p v w W) (n : Nat) : LpS B T Y F D k p v w (W.drewN n) := ⟨h.f.drewN n, fun i hi => h.d i hi, h.q.drewN n, h.y.drewN n, below_drewN h.below n⟩

set_option maxRecDepth 100000 in
set_option maxHeartbeats 8000000 in
theorem rsLocates_core (s F G : Nat → El) (w : World) :
    Calls Try.prog 4 #[.agg (arr 4 s).toArray, .agg (arr 36 F).toArray, .agg (arr 3 G).toArray] w fun e w' => e = .returned (.bool true) ∧ Below w.heap.size w w' := by
  have hz := zeroVd
  have hzV := zeroV
  have hz32 := zero32
  have hone := vk_one (sy (wd F G))
  have hmn : ∀ i, mnd F (sy (wd F G)) i = if vk (sy (wd F G)) = 1 ∧ (i : Int) = vp (sy (wd F G)) then F i ^^^ vv (sy (wd F G)) else F i := fun i => rfl
  have cL : Hid (∀ c b W, CdAt W c b → Calls Try.prog 18 #[.pointer (some ⟨c, 0, none⟩), .agg (arr 4 s).toArray] W fun e w' => e = .returned (.agg (vd s)) ∧ Below W.heap.size W w') := fun c b W h => locate_any c b s W h
  have cR : Hid (∀ W, Calls Try.prog 17 #[.agg (arr 4 s).toArray] W fun e w' => e = .returned (.agg (vd s)) ∧ Below W.heap.size W w') := fun W => refLocate_any s W
  have cD : Hid (∀ c b W, CdAt W c b → Calls Try.prog 19 #[.pointer (some ⟨c, 0, none⟩), .agg (arr 36 F).toArray, .agg (arr 3 G).toArray] W fun e w' => e = .returned (.tuple #[.agg (arr 32 fun i => mnd F (sy (wd F G)) (4 + i)).toArray, .agg (vd (sy (wd F G)))]) ∧ Below W.heap.size W w') := fun c b W h => decode_any c b F G W h
  have cW : Hid (∀ W, Calls Try.prog 12 #[.agg (arr 36 F).toArray, .agg (arr 3 G).toArray] W fun e w' => e = .returned (.agg (arr 39 (wd F G)).toArray) ∧ Below W.heap.size W w') := fun W => refWord_any F G W
  have cV : Hid (∀ W, Calls Try.prog 11 #[.agg (arr 39 (wd F G)).toArray] W fun e w' => e = .returned (.agg (arr 4 (sy (wd F G))).toArray) ∧ Below W.heap.size W w') := fun W => refValues_any _ W
  have cR2 : Hid (∀ W, Calls Try.prog 17 #[.agg (arr 4 (sy (wd F G))).toArray] W fun e w' => e = .returned (.agg (vd (sy (wd F G)))) ∧ Below W.heap.size W w') := fun W => refLocate_any _ W
  obtain ⟨s1, hs1⟩ : ∃ s1, sy (wd F G) = s1 := ⟨_, rfl⟩
  rw [hs1] at cD cV cR2 hone
  simp only [hs1] at hmn
  unfold vd at cL cR cD cR2
  obtain ⟨k0, hk0⟩ : ∃ k, vk s = k := ⟨_, rfl⟩
  obtain ⟨p0, hp0⟩ : ∃ k, vp s = k := ⟨_, rfl⟩
  obtain ⟨v0, hv0⟩ : ∃ k, oe (vv s) = k := ⟨_, rfl⟩
  obtain ⟨k1, hk1⟩ : ∃ k, vk s1 = k := ⟨_, rfl⟩
  obtain ⟨p1, hp1⟩ : ∃ k, vp s1 = k := ⟨_, rfl⟩
  obtain ⟨v1, hv1⟩ : ∃ k, vv s1 = k := ⟨_, rfl⟩
  rw [hk0, hp0, hv0] at cL cR
  rw [hk1, hp1, hv1] at cD cR2 hone
  simp only [hk1, hp1, hv1] at hmn
  obtain ⟨Dd, hDd⟩ : ∃ D : Nat → El, (fun i => mnd F s1 (4 + i)) = D := ⟨_, rfl⟩
  rw [hDd] at cD
  obtain ⟨A0, hA0⟩ : ∃ A, arr 4 s = A := ⟨_, rfl⟩
  obtain ⟨A1, hA1⟩ : ∃ A, arr 36 F = A := ⟨_, rfl⟩
  obtain ⟨A2, hA2⟩ : ∃ A, arr 3 G = A := ⟨_, rfl⟩
  obtain ⟨A3, hA3⟩ : ∃ A, (arr 32 fun _ => 0) = A := ⟨_, rfl⟩
  obtain ⟨R, hR⟩ : ∃ A, arr 32 Dd = A := ⟨_, rfl⟩
  obtain ⟨M, hM⟩ : ∃ A, arr 39 (wd F G) = A := ⟨_, rfl⟩
  obtain ⟨L, hL⟩ : ∃ A, arr 4 s1 = A := ⟨_, rfl⟩
  have i4 : (Try.prog.info? 27).map (·.size) = some A0.length := by rw [← hA0, arr_len]; kernel_rfl
  have i36 : (Try.prog.info? 24).map (·.size) = some A1.length := by rw [← hA1, arr_len]; kernel_rfl
  have i3 : (Try.prog.info? 23).map (·.size) = some A2.length := by rw [← hA2, arr_len]; kernel_rfl
  have iR : (Try.prog.info? 22).map (·.size) = some R.length := by rw [← hR, arr_len]; kernel_rfl
  have oR : R.toArray.all (·.oneCell') = true := by rw [← hR]; exact arr_one 32 _
  have lR : R.length = 32 := by rw [← hR, arr_len]
  rw [hA3] at hz32
  rw [hA0] at cL cR
  rw [hA1, hA2, hR] at cD
  rw [hA1, hA2, hM] at cW
  rw [hM, hL] at cV
  rw [hL] at cR2
  rw [hA0, hA1, hA2]
  go_enter Try.func4, Try.ntmps4
  go_upto_region 1 with (fail)
  obtain ⟨B, hB⟩ : ∃ B, w.heap.size = B := ⟨_, rfl⟩
  obtain ⟨V0, hV0⟩ : ∃ V, ((w.alloc (.cells A0.toArray 27)).alloc (.cells A1.toArray 24)).alloc (.cells A2.toArray 23) = V := ⟨_, rfl⟩
  have H0 : Hid (Blk V0 B 4 s ∧ Blk V0 (B + 1) 36 F ∧ Blk V0 (B + 1 + 1) 3 G ∧ Below B w V0) := by
    have h0 := Blk.new w 4 s 27
    have h1 := Blk.new (w.alloc (.cells A0.toArray 27)) 36 F 24
    have h2 := Blk.new ((w.alloc (.cells A0.toArray 27)).alloc (.cells A1.toArray 24)) 3 G 23
    simp only [World.size_alloc] at h1 h2
    rw [hA0] at h0
    rw [hA1] at h1
    rw [hA2] at h2
    rw [← hB, ← hV0]
    exact ⟨(h0.alloc _).alloc _, h1.alloc _, h2, (((Below.refl _ w).alloc (Nat.le_refl _) _).alloc (by simp) _).alloc (by simp; omega) _⟩
  rw [hV0, hB]
  clear hV0
  go_upto_region 4 with (go_at_call 10; refine (coded_any _).mono ?_; rintro e V1 ⟨c, b, rfl, hC, hB1, hcn, hbn⟩)
  have H1 : Hid (Blk V1 B 4 s ∧ Blk V1 (B + 1) 36 F ∧ Blk V1 (B + 1 + 1) 3 G ∧ CdAt V1 c b ∧ Below B w V1) := by
    obtain ⟨h1, h2, h3, h5⟩ := H0.out
    exact ⟨h1.next hB1, h2.next hB1, h3.next hB1, hC, h5.trans (hB1.mono (Nat.le_of_lt h1.lt))⟩
  have r0 : V1.rangeAt B 0 A0 := by rw [← hA0]; exact H1.out.1.range
  clear H0 hC hB1 hcn hbn
  go_upto_region 5 with (first | refine wpList_load_mid rfl 27 _ rfl B 0 rfl A0 _ r0 Try.underlying27 rfl i4 ?_ | (go_at_call 17; refine (cR.out _).mono ?_; rintro e V2 ⟨rfl, hB2⟩))
  obtain ⟨X, hX⟩ : ∃ X, V2.heap.size = X := ⟨_, rfl⟩
  obtain ⟨V3, hV3⟩ : ∃ V, V2.alloc (.cells #[.int .i64 k0, .int .i64 p0, .int .u8 v0] 38) = V := ⟨_, rfl⟩
  have H3 : LoS B c b X s F G (.int .i64 k0) (.int .i64 p0) (.int .u8 v0) w V3 := by
    obtain ⟨h1, h2, h3, h4, h5⟩ := H1.out
    have b3 : Below V1.heap.size V1 V3 := by rw [← hV3]; exact hB2.alloc hB2.size _
    exact ⟨h1.next b3, h2.next b3, h3.next b3, by rw [← hV3, ← hX]; exact VdAt.new V2 _ _ _ _, h4.next b3, h5.trans (b3.mono (Nat.le_of_lt h1.lt))⟩
  rw [hV3, hX]
  clear hV3 hX hB2 H1 r0 cR
  refine region_ends (by kernel_rfl) (fun w' => LoS B c b X s F G (.int .i64 k0) (.int .i64 p0) (.int .u8 v0) w w') (fun a' w' => a' = ({ tmps := #[.agg A0.toArray, .agg A1.toArray, .agg A2.toArray, .pointer (some ⟨B, 0, none⟩), .pointer (some ⟨B + 1, 0, none⟩), .pointer (some ⟨B + 1 + 1, 0, none⟩), .bool false, .pointer (some ⟨c, 0, none⟩), .pointer (some ⟨X, 0, none⟩), undef, undef, undef, undef, .pointer (some ⟨c, 0, none⟩), .pointer (some ⟨c, 0, none⟩), .bool false, .agg A0.toArray, .agg #[.int .i64 k0, .int .i64 p0, .int .u8 v0], .pointer (some ⟨c, 0, none⟩), .agg A0.toArray, .agg #[.int .i64 k0, .int .i64 p0, .int .u8 v0], .pointer (some ⟨X, 0, none⟩), .int .i64 k0, .pointer (some ⟨X, 1, none⟩), .int .i64 p0, .pointer (some ⟨X, 2, none⟩), .int .u8 v0, .agg #[.int .i64 k0, .int .i64 p0, .int .u8 v0], .bool false, undef, undef, undef, undef, undef, undef, undef, undef, undef, undef, undef, undef, undef, undef, undef, undef, undef, undef, undef, undef, undef, undef, undef, undef, undef, undef, undef, undef, undef, undef, undef, undef, undef, undef, undef, undef, undef, undef, undef, undef, undef, undef, undef, undef], defers := [] } : Act) ∧ LoS B c b X s F G (.int .i64 k0) (.int .i64 p0) (.int .u8 v0) w w') H3.drew (fun hH => ?_) (fun a' w' hr => ?_)
  · refine take_pure 0 (v := .pointer (some ⟨c, 0, none⟩)) rfl (by kernel_rfl) rfl (fun w' hw => by simp [execOp, go_sem]) hH ?_
    show wpAnyH _ _ _ _ _ _ _ ({ tmps := #[.agg A0.toArray, .agg A1.toArray, .agg A2.toArray, .pointer (some ⟨B, 0, none⟩), .pointer (some ⟨B + 1, 0, none⟩), .pointer (some ⟨B + 1 + 1, 0, none⟩), .bool false, .pointer (some ⟨c, 0, none⟩), .pointer (some ⟨X, 0, none⟩), undef, undef, undef, undef, .pointer (some ⟨c, 0, none⟩), .pointer (some ⟨c, 0, none⟩), .bool false, .agg A0.toArray, .agg #[.int .i64 k0, .int .i64 p0, .int .u8 v0], .pointer (some ⟨c, 0, none⟩), undef, undef, undef, undef, undef, undef, undef, undef, undef, undef, undef, undef, undef, undef, undef, undef, undef, undef, undef, undef, undef, undef, undef, undef, undef, undef, undef, undef, undef, undef, undef, undef, undef, undef, undef, undef, undef, undef, undef, undef, undef, undef, undef, undef, undef, undef, undef, undef, undef, undef, undef, undef, undef, undef], defers := [] } : Act) _
    refine take_if 1 (v := .agg A0.toArray) rfl (by kernel_rfl) (yieldsIf_load_mid (by rfl) _ _ rfl B 0 rfl A0 _ (fun w' hw => by rw [← hA0]; exact hw.s.range) Try.underlying27 rfl i4) hH ?_
    show wpAnyH _ _ _ _ _ _ _ ({ tmps := #[.agg A0.toArray, .agg A1.toArray, .agg A2.toArray, .pointer (some ⟨B, 0, none⟩), .pointer (some ⟨B + 1, 0, none⟩), .pointer (some ⟨B + 1 + 1, 0, none⟩), .bool false, .pointer (some ⟨c, 0, none⟩), .pointer (some ⟨X, 0, none⟩), undef, undef, undef, undef, .pointer (some ⟨c, 0, none⟩), .pointer (some ⟨c, 0, none⟩), .bool false, .agg A0.toArray, .agg #[.int .i64 k0, .int .i64 p0, .int .u8 v0], .pointer (some ⟨c, 0, none⟩), .agg A0.toArray, undef, undef, undef, undef, undef, undef, undef, undef, undef, undef, undef, undef, undef, undef, undef, undef, undef, undef, undef, undef, undef, undef, undef, undef, undef, undef, undef, undef, undef, undef, undef, undef, undef, undef, undef, undef, undef, undef, undef, undef, undef, undef, undef, undef, undef, undef, undef, undef, undef, undef, undef, undef, undef], defers := [] } : Act) _
    refine take_pure 3 (v := .pointer (some ⟨X, 0, none⟩)) rfl (by kernel_rfl) rfl (fun w' hw => by simp [execOp, go_sem]) hH ?_
    show wpAnyH _ _ _ _ _ _ _ ({ tmps := #[.agg A0.toArray, .agg A1.toArray, .agg A2.toArray, .pointer (some ⟨B, 0, none⟩), .pointer (some ⟨B + 1, 0, none⟩), .pointer (some ⟨B + 1 + 1, 0, none⟩), .bool false, .pointer (some ⟨c, 0, none⟩), .pointer (some ⟨X, 0, none⟩), undef, undef, undef, undef, .pointer (some ⟨c, 0, none⟩), .pointer (some ⟨c, 0, none⟩), .bool false, .agg A0.toArray, .agg #[.int .i64 k0, .int .i64 p0, .int .u8 v0], .pointer (some ⟨c, 0, none⟩), .agg A0.toArray, undef, .pointer (some ⟨X, 0, none⟩), undef, undef, undef, undef, undef, undef, undef, undef, undef, undef, undef, undef, undef, undef, undef, undef, undef, undef, undef, undef, undef, undef, undef, undef, undef, undef, undef, undef, undef, undef, undef, undef, undef, undef, undef, undef, undef, undef, undef, undef, undef, undef, undef, undef, undef, undef, undef, undef, undef, undef, undef], defers := [] } : Act) _
    refine take_pure 4 (v := .int .i64 k0) rfl (by kernel_rfl) rfl (fun w' hw => by simp [execOp, go_sem, hw.x.c0]) hH ?_
    show wpAnyH _ _ _ _ _ _ _ ({ tmps := #[.agg A0.toArray, .agg A1.toArray, .agg A2.toArray, .pointer (some ⟨B, 0, none⟩), .pointer (some ⟨B + 1, 0, none⟩), .pointer (some ⟨B + 1 + 1, 0, none⟩), .bool false, .pointer (some ⟨c, 0, none⟩), .pointer (some ⟨X, 0, none⟩), undef, undef, undef, undef, .pointer (some ⟨c, 0, none⟩), .pointer (some ⟨c, 0, none⟩), .bool false, .agg A0.toArray, .agg #[.int .i64 k0, .int .i64 p0, .int .u8 v0], .pointer (some ⟨c, 0, none⟩), .agg A0.toArray, undef, .pointer (some ⟨X, 0, none⟩), .int .i64 k0, undef, undef, undef, undef, undef, undef, undef, undef, undef, undef, undef, undef, undef, undef, undef, undef, undef, undef, undef, undef, undef, undef, undef, undef, undef, undef, undef, undef, undef, undef, undef, undef, undef, undef, undef, undef, undef, undef, undef, undef, undef, undef, undef, undef, undef, undef, undef, undef, undef, undef], defers := [] } : Act) _
    refine take_pure 5 (v := .pointer (some ⟨X, 1, none⟩)) rfl (by kernel_rfl) rfl (fun w' hw => by simp [execOp, go_sem]) hH ?_
    show wpAnyH _ _ _ _ _ _ _ ({ tmps := #[.agg A0.toArray, .agg A1.toArray, .agg A2.toArray, .pointer (some ⟨B, 0, none⟩), .pointer (some ⟨B + 1, 0, none⟩), .pointer (some ⟨B + 1 + 1, 0, none⟩), .bool false, .pointer (some ⟨c, 0, none⟩), .pointer (some ⟨X, 0, none⟩), undef, undef, undef, undef, .pointer (some ⟨c, 0, none⟩), .pointer (some ⟨c, 0, none⟩), .bool false, .agg A0.toArray, .agg #[.int .i64 k0, .int .i64 p0, .int .u8 v0], .pointer (some ⟨c, 0, none⟩), .agg A0.toArray, undef, .pointer (some ⟨X, 0, none⟩), .int .i64 k0, .pointer (some ⟨X, 1, none⟩), undef, undef, undef, undef, undef, undef, undef, undef, undef, undef, undef, undef, undef, undef, undef, undef, undef, undef, undef, undef, undef, undef, undef, undef, undef, undef, undef, undef, undef, undef, undef, undef, undef, undef, undef, undef, undef, undef, undef, undef, undef, undef, undef, undef, undef, undef, undef, undef, undef], defers := [] } : Act) _
    refine take_pure 6 (v := .int .i64 p0) rfl (by kernel_rfl) rfl (fun w' hw => by simp [execOp, go_sem, hw.x.c1]) hH ?_
    show wpAnyH _ _ _ _ _ _ _ ({ tmps := #[.agg A0.toArray, .agg A1.toArray, .agg A2.toArray, .pointer (some ⟨B, 0, none⟩), .pointer (some ⟨B + 1, 0, none⟩), .pointer (some ⟨B + 1 + 1, 0, none⟩), .bool false, .pointer (some ⟨c, 0, none⟩), .pointer (some ⟨X, 0, none⟩), undef, undef, undef, undef, .pointer (some ⟨c, 0, none⟩), .pointer (some ⟨c, 0, none⟩), .bool false, .agg A0.toArray, .agg #[.int .i64 k0, .int .i64 p0, .int .u8 v0], .pointer (some ⟨c, 0, none⟩), .agg A0.toArray, undef, .pointer (some ⟨X, 0, none⟩), .int .i64 k0, .pointer (some ⟨X, 1, none⟩), .int .i64 p0, undef, undef, undef, undef, undef, undef, undef, undef, undef, undef, undef, undef, undef, undef, undef, undef, undef, undef, undef, undef, undef, undef, undef, undef, undef, undef, undef, undef, undef, undef, undef, undef, undef, undef, undef, undef, undef, undef, undef, undef, undef, undef, undef, undef, undef, undef, undef, undef], defers := [] } : Act) _
    refine take_pure 7 (v := .pointer (some ⟨X, 2, none⟩)) rfl (by kernel_rfl) rfl (fun w' hw => by simp [execOp, go_sem]) hH ?_
    show wpAnyH _ _ _ _ _ _ _ ({ tmps := #[.agg A0.toArray, .agg A1.toArray, .agg A2.toArray, .pointer (some ⟨B, 0, none⟩), .pointer (some ⟨B + 1, 0, none⟩), .pointer (some ⟨B + 1 + 1, 0, none⟩), .bool false, .pointer (some ⟨c, 0, none⟩), .pointer (some ⟨X, 0, none⟩), undef, undef, undef, undef, .pointer (some ⟨c, 0, none⟩), .pointer (some ⟨c, 0, none⟩), .bool false, .agg A0.toArray, .agg #[.int .i64 k0, .int .i64 p0, .int .u8 v0], .pointer (some ⟨c, 0, none⟩), .agg A0.toArray, undef, .pointer (some ⟨X, 0, none⟩), .int .i64 k0, .pointer (some ⟨X, 1, none⟩), .int .i64 p0, .pointer (some ⟨X, 2, none⟩), undef, undef, undef, undef, undef, undef, undef, undef, undef, undef, undef, undef, undef, undef, undef, undef, undef, undef, undef, undef, undef, undef, undef, undef, undef, undef, undef, undef, undef, undef, undef, undef, undef, undef, undef, undef, undef, undef, undef, undef, undef, undef, undef, undef, undef, undef, undef], defers := [] } : Act) _
    refine take_pure 8 (v := .int .u8 v0) rfl (by kernel_rfl) rfl (fun w' hw => by simp [execOp, go_sem, hw.x.c2]) hH ?_
    show wpAnyH _ _ _ _ _ _ _ ({ tmps := #[.agg A0.toArray, .agg A1.toArray, .agg A2.toArray, .pointer (some ⟨B, 0, none⟩), .pointer (some ⟨B + 1, 0, none⟩), .pointer (some ⟨B + 1 + 1, 0, none⟩), .bool false, .pointer (some ⟨c, 0, none⟩), .pointer (some ⟨X, 0, none⟩), undef, undef, undef, undef, .pointer (some ⟨c, 0, none⟩), .pointer (some ⟨c, 0, none⟩), .bool false, .agg A0.toArray, .agg #[.int .i64 k0, .int .i64 p0, .int .u8 v0], .pointer (some ⟨c, 0, none⟩), .agg A0.toArray, undef, .pointer (some ⟨X, 0, none⟩), .int .i64 k0, .pointer (some ⟨X, 1, none⟩), .int .i64 p0, .pointer (some ⟨X, 2, none⟩), .int .u8 v0, undef, undef, undef, undef, undef, undef, undef, undef, undef, undef, undef, undef, undef, undef, undef, undef, undef, undef, undef, undef, undef, undef, undef, undef, undef, undef, undef, undef, undef, undef, undef, undef, undef, undef, undef, undef, undef, undef, undef, undef, undef, undef, undef, undef, undef, undef], defers := [] } : Act) _
    refine take_pure 9 (v := .agg #[.int .i64 k0, .int .i64 p0, .int .u8 v0]) rfl (by kernel_rfl) rfl (fun w' hw => by simp [execOp, go_sem, hz]) hH ?_
    show wpAnyH _ _ _ _ _ _ _ ({ tmps := #[.agg A0.toArray, .agg A1.toArray, .agg A2.toArray, .pointer (some ⟨B, 0, none⟩), .pointer (some ⟨B + 1, 0, none⟩), .pointer (some ⟨B + 1 + 1, 0, none⟩), .bool false, .pointer (some ⟨c, 0, none⟩), .pointer (some ⟨X, 0, none⟩), undef, undef, undef, undef, .pointer (some ⟨c, 0, none⟩), .pointer (some ⟨c, 0, none⟩), .bool false, .agg A0.toArray, .agg #[.int .i64 k0, .int .i64 p0, .int .u8 v0], .pointer (some ⟨c, 0, none⟩), .agg A0.toArray, undef, .pointer (some ⟨X, 0, none⟩), .int .i64 k0, .pointer (some ⟨X, 1, none⟩), .int .i64 p0, .pointer (some ⟨X, 2, none⟩), .int .u8 v0, .agg #[.int .i64 k0, .int .i64 p0, .int .u8 v0], undef, undef, undef, undef, undef, undef, undef, undef, undef, undef, undef, undef, undef, undef, undef, undef, undef, undef, undef, undef, undef, undef, undef, undef, undef, undef, undef, undef, undef, undef, undef, undef, undef, undef, undef, undef, undef, undef, undef, undef, undef, undef, undef, undef, undef], defers := [] } : Act) _
    refine take_one 2 rfl rfl (by kernel_rfl) ?_
    refine wp_contract 18 [.tmp 18, .tmp 19] _ rfl (enters_of Try.func18 (by kernel_rfl) rfl) [.pointer (some ⟨c, 0, none⟩), .agg A0.toArray] rfl (cL.out c b _ hH.code) ?_
    rintro e W' ⟨rfl, hB1⟩
    refine ⟨_, rfl, hH.next hB1, fun hH => ?_⟩
    show wpAnyH _ _ _ _ _ _ _ ({ tmps := #[.agg A0.toArray, .agg A1.toArray, .agg A2.toArray, .pointer (some ⟨B, 0, none⟩), .pointer (some ⟨B + 1, 0, none⟩), .pointer (some ⟨B + 1 + 1, 0, none⟩), .bool false, .pointer (some ⟨c, 0, none⟩), .pointer (some ⟨X, 0, none⟩), undef, undef, undef, undef, .pointer (some ⟨c, 0, none⟩), .pointer (some ⟨c, 0, none⟩), .bool false, .agg A0.toArray, .agg #[.int .i64 k0, .int .i64 p0, .int .u8 v0], .pointer (some ⟨c, 0, none⟩), .agg A0.toArray, .agg #[.int .i64 k0, .int .i64 p0, .int .u8 v0], .pointer (some ⟨X, 0, none⟩), .int .i64 k0, .pointer (some ⟨X, 1, none⟩), .int .i64 p0, .pointer (some ⟨X, 2, none⟩), .int .u8 v0, .agg #[.int .i64 k0, .int .i64 p0, .int .u8 v0], undef, undef, undef, undef, undef, undef, undef, undef, undef, undef, undef, undef, undef, undef, undef, undef, undef, undef, undef, undef, undef, undef, undef, undef, undef, undef, undef, undef, undef, undef, undef, undef, undef, undef, undef, undef, undef, undef, undef, undef, undef, undef, undef, undef, undef], defers := [] } : Act) _
    refine take_pure 10 (v := .bool false) rfl (by kernel_rfl) rfl (fun w' hw => by simp [execOp, go_sem]) hH ?_
    show wpAnyH _ _ _ _ _ _ _ ({ tmps := #[.agg A0.toArray, .agg A1.toArray, .agg A2.toArray, .pointer (some ⟨B, 0, none⟩), .pointer (some ⟨B + 1, 0, none⟩), .pointer (some ⟨B + 1 + 1, 0, none⟩), .bool false, .pointer (some ⟨c, 0, none⟩), .pointer (some ⟨X, 0, none⟩), undef, undef, undef, undef, .pointer (some ⟨c, 0, none⟩), .pointer (some ⟨c, 0, none⟩), .bool false, .agg A0.toArray, .agg #[.int .i64 k0, .int .i64 p0, .int .u8 v0], .pointer (some ⟨c, 0, none⟩), .agg A0.toArray, .agg #[.int .i64 k0, .int .i64 p0, .int .u8 v0], .pointer (some ⟨X, 0, none⟩), .int .i64 k0, .pointer (some ⟨X, 1, none⟩), .int .i64 p0, .pointer (some ⟨X, 2, none⟩), .int .u8 v0, .agg #[.int .i64 k0, .int .i64 p0, .int .u8 v0], .bool false, undef, undef, undef, undef, undef, undef, undef, undef, undef, undef, undef, undef, undef, undef, undef, undef, undef, undef, undef, undef, undef, undef, undef, undef, undef, undef, undef, undef, undef, undef, undef, undef, undef, undef, undef, undef, undef, undef, undef, undef, undef, undef, undef, undef], defers := [] } : Act) _
    exact wpAnyH_done (by kernel_rfl) ⟨rfl, hH⟩ _
  · obtain ⟨ha, hS⟩ := hr
    rw [ha]
    clear ha a'
    simp only []
    have H4 : Hid (LoS B c b X s F G (.int .i64 k0) (.int .i64 p0) (.int .u8 v0) w w') := hS
    have r1 : w'.rangeAt (B + 1) 0 A1 := by rw [← hA1]; exact hS.f.range
    have r2 : w'.rangeAt (B + 1 + 1) 0 A2 := by rw [← hA2]; exact hS.v.range
    clear hS H3 cL
    go_upto_region 7 with (fail)
    go_upto_region 8 with (first | refine wpList_load_mid rfl 24 _ rfl (B + 1) 0 rfl A1 _ r1 Try.underlying24 rfl i36 ?_ | refine wpList_load_mid rfl 23 _ rfl (B + 1 + 1) 0 rfl A2 _ r2 Try.underlying23 rfl i3 ?_ | (go_at_call 19; refine (cD.out c b _ H4.out.code).mono ?_; rintro e V5 ⟨rfl, hB5⟩) | refine wpList_store_mid rfl 22 _ _ rfl _ 0 R.toArray rfl rfl (pair_t1 hA3 lR _ _ _) iR oR ?_ | refine wpList_store_mid rfl 40 _ _ rfl _ 0 #[.int .i64 k1, .int .i64 p1, .int .u8 (oe v1)] rfl rfl (pair_t2 _ _ _ _ _) infoVd (by simp [Value.oneCell']) ?_)
    obtain ⟨V6, hV6⟩ : ∃ V, (((V5.alloc (.cells A3.toArray 22)).alloc (.cells #[.int .i64 0, .int .i64 0, .int .u8 0] 40)).setCells V5.heap.size 0 R).setCells (V5.heap.size + 1) 0 [.int .i64 k1, .int .i64 p1, .int .u8 (oe v1)] = V := ⟨_, rfl⟩
    obtain ⟨v6, b6, s6⟩ := pair_laid V5 _ _ R _ _ _ V6 hV6
    have rT := pair_range V5 A3 R hA3 lR _ _ _ _ _ V6 hV6
    obtain ⟨T, hT⟩ : ∃ T, V5.heap.size = T := ⟨_, rfl⟩
    have bb : Below w'.heap.size w' V6 := hB5.trans (b6.mono hB5.size)
    have H6 := H4.out.next bb
    rw [hT] at v6 rT s6
    have aT : Arr V6 T 32 Dd := Arr.ofRange (by rw [hR]; exact rT)
    have r3 : V6.rangeAt (B + 1) 0 A1 := by rw [← hA1]; exact H6.f.range
    have r4 : V6.rangeAt (B + 1 + 1) 0 A2 := by rw [← hA2]; exact H6.v.range
    have sT : B + 1 + 1 < T := by rw [← hT]; exact Nat.lt_of_lt_of_le H4.out.v.lt hB5.size
    have H7 : Hid (Blk V6 (B + 1) 36 F ∧ Arr V6 T 32 Dd ∧ VdAt V6 (T + 1) (.int .i64 k1) (.int .i64 p1) (.int .u8 (oe v1)) ∧ Below B w V6 ∧ V6.heap.size = T + 2) := ⟨H6.f, aT, v6, H6.below, s6⟩
    simp only [Act.put]
    rw [hV6, hT]
    clear hV6 hT v6 b6 s6 bb H6 H4 r1 r2 cD hB5 aT rT
    go_upto_region 9 with (first | refine wpList_load_mid rfl 24 _ rfl (B + 1) 0 rfl A1 _ r3 Try.underlying24 rfl i36 ?_ | refine wpList_load_mid rfl 23 _ rfl (B + 1 + 1) 0 rfl A2 _ r4 Try.underlying23 rfl i3 ?_ | (go_at_call 12; refine (cW.out _).mono ?_; rintro e V7 ⟨rfl, hB7⟩) | (go_at_call 11; refine (cV.out _).mono ?_; rintro e V8 ⟨rfl, hB8⟩) | (go_at_call 17; refine (cR2.out _).mono ?_; rintro e V9 ⟨rfl, hB9⟩))
    obtain ⟨Y, hY⟩ : ∃ Y, V9.heap.size = Y := ⟨_, rfl⟩
    obtain ⟨Va, hVa⟩ : ∃ V, V9.alloc (.cells #[.int .i64 k1, .int .i64 p1, .int .u8 (oe v1)] 38) = V := ⟨_, rfl⟩
    have ba : Below V6.heap.size V6 Va := by
      rw [← hVa]
      have b9 : Below V6.heap.size V6 V9 := (hB7.trans (hB8.mono hB7.size)).trans (hB9.mono (Nat.le_trans hB7.size hB8.size))
      exact b9.alloc b9.size _
    have sY : T + 1 < Y := by
      have := hB7.size; have := hB8.size; have := hB9.size; have := H7.out.2.2.2.2; omega
    have Ha : Hid (LpS B T Y F Dd k1 p1 (oe v1) w Va) := by
      obtain ⟨h1, h2, h3, h4, h5⟩ := H7.out
      exact ⟨h1.next ba, fun i hi => (ba.cell (p := ⟨T, i, none⟩) (by simp; omega)).trans (h2 i hi), h3.next ba, by rw [← hVa, ← hY]; exact VdAt.new V9 _ _ _ _, h4.trans (ba.mono (Nat.le_trans (Nat.le_of_lt (show B < T by omega)) (by omega)))⟩
    have y0 := Ha.out.y.c0; have y1 := Ha.out.y.c1; have y2 := Ha.out.y.c2
    rw [hVa, hY]
    clear hVa hY ba H7 hB7 hB8 hB9 r3 r4 cW cV cR2
    by_cases hK1 : k1 = 1
    · obtain ⟨n, hn, h1a, hLi, h1b⟩ := hone hK1
      clear h1a h1b
      subst hLi
      subst hK1
      have cw := Ha.out.f.arr n hn
      have fw := Ha.out.f.free n
      have ex := oe_xor (F n) v1
      have nBY : B + 1 ≠ Y := by omega
      clear hone
      go_wp2
      go_region
      try rw [ex]
      obtain ⟨F1, hF1d⟩ : ∃ X : Nat → El, (fun k => if k = n then F n ^^^ v1 else F k) = X := ⟨_, rfl⟩
      obtain ⟨Vb, hVb⟩ : ∃ V, (Va.setCell ⟨B + 1, n, none⟩ (.int .u8 (oe (F n ^^^ v1)))).drew = V := ⟨_, rfl⟩
      have Hb : Hid (LpS B T Y F1 Dd 1 (n : Int) (oe v1) w Vb) := by
        obtain ⟨h1, h2, h3, h4, h5⟩ := Ha.out
        rw [← hVb, ← hF1d]
        have o : ∀ k, k ≠ B + 1 → (Va.setCell ⟨B + 1, n, none⟩ (.int .u8 (oe (F n ^^^ v1)))).drew.heap[k]? = Va.heap[k]? := fun k hk => Below.heap_setCell Va ⟨B + 1, n, none⟩ _ k hk
        exact ⟨(h1.set n _).drew, h2.of (o _ (by omega)), h3.of (o _ (by omega)), h4.of (o _ (by omega)), below_drewN (h5.setCell (p := ⟨B + 1, n, none⟩) (by simp) _) 1⟩
      have hF1 : ∀ j, j < 32 → F1 (4 + j) = Dd j := fun j hj => by
        rw [← hDd, ← hF1d]
        show (if 4 + j = n then F n ^^^ v1 else F (4 + j)) = mnd F s1 (4 + j)
        rw [hmn]
        by_cases e : 4 + j = n
        · simp [e]
        · have e2 : ¬ (((4 + j : Nat) : Int) = (n : Int)) := by omega
          simp only [if_neg e, e2, and_false, if_false]
      rw [hVb]
      clear hVb hF1d Ha cw fw ex y0 y1 y2
      have HX : Hid (∀ j, j < 32 → F1 (4 + j) = Dd j) := hF1
      clear hF1 hmn
      go_wp2
      go_loopw [52] (fun i wr => ∃ k : Nat, k ≤ 32 ∧ i = .int .i64 (k : Int) ∧ Hid (LpS B T Y F1 Dd 1 (n : Int) (oe v1) w wr)) (fun i _ => 32 - (intOf i).toNat)
      case atStart => exact ⟨0, by omega, rfl, Hb.out⟩
      case round =>
        obtain ⟨k, hk, rfl, HK⟩ := hrel
        by_cases hlt : k < 32
        · have c0 := HK.out.d k hlt
          have c1 := HK.out.f.arr (4 + k) (by omega)
          rw [HX.out k hlt] at c1
          have HE : Hid (LpS B T Y F1 Dd 1 (n : Int) (oe v1) w wr.drew) := HK.out.drewN 1
          obtain ⟨v, hv⟩ : ∃ v, oe (Dd k) = v := ⟨_, rfl⟩
          rw [hv] at c0 c1
          clear hv HK HX
          go_wp2
          go_region
          go_wp2
          go_roundw
          case rel => exact ⟨k + 1, by omega, by go_num, HE.out⟩
          case measure => simp [intOf]; omega
        · obtain rfl : k = 32 := by omega
          have q0 := HK.out.q.c0; have q1 := HK.out.q.c1; have q2 := HK.out.q.c2
          have y0 := HK.out.y.c0; have y1 := HK.out.y.c1; have y2 := HK.out.y.c2
          have HB : Hid (Below B w wr) := HK.out.below
          clear HK HX Hb
          go_wp2
          go_ret
          exact ⟨rfl, by first | exact HB.out | (rw [hB]; exact HB.out)⟩
    · have hd1 : (k1 == 1) = false := by simpa using hK1
      obtain ⟨F1, hF1d⟩ : ∃ X : Nat → El, F = X := ⟨_, rfl⟩
      have hF1 : ∀ j, j < 32 → F1 (4 + j) = Dd j := fun j hj => by
        rw [← hDd, ← hF1d]
        show F (4 + j) = mnd F s1 (4 + j)
        rw [hmn, if_neg (fun h => hK1 h.1)]
      have Hb : Hid (LpS B T Y F1 Dd k1 p1 (oe v1) w Va) := by rw [← hF1d]; exact Ha.out
      clear hF1d Ha hone hK1
      have HX : Hid (∀ j, j < 32 → F1 (4 + j) = Dd j) := hF1
      clear hF1 hmn
      go_wp2
      go_loopw [52] (fun i wr => ∃ k : Nat, k ≤ 32 ∧ i = .int .i64 (k : Int) ∧ Hid (LpS B T Y F1 Dd k1 p1 (oe v1) w wr)) (fun i _ => 32 - (intOf i).toNat)
      case atStart => exact ⟨0, by omega, rfl, Hb.out⟩
      case round =>
        obtain ⟨k, hk, rfl, HK⟩ := hrel
        by_cases hlt : k < 32
        · have c0 := HK.out.d k hlt
          have c1 := HK.out.f.arr (4 + k) (by omega)
          rw [HX.out k hlt] at c1
          have HE : Hid (LpS B T Y F1 Dd k1 p1 (oe v1) w wr.drew) := HK.out.drewN 1
          obtain ⟨v, hv⟩ : ∃ v, oe (Dd k) = v := ⟨_, rfl⟩
          rw [hv] at c0 c1
          clear hv HK HX
          go_wp2
          go_region
          go_wp2
          go_roundw
          case rel => exact ⟨k + 1, by omega, by go_num, HE.out⟩
          case measure => simp [intOf]; omega
        · obtain rfl : k = 32 := by omega
          have q0 := HK.out.q.c0; have q1 := HK.out.q.c1; have q2 := HK.out.q.c2
          have y0 := HK.out.y.c0; have y1 := HK.out.y.c1; have y2 := HK.out.y.c2
          have HB : Hid (Below B w wr) := HK.out.below
          clear HK HX Hb
          go_wp2
          go_ret
          exact ⟨rfl, by first | exact HB.out | (rw [hB]; exact HB.out)⟩
theorem rsLocates_walk (a0 : Nat → Int) (a1 : Nat → Int) (a2 : Nat → Int) (w0 : ∀ i, i < 4 → (Lit.int .u8 (a0 i)).wf = true) (w1 : ∀ i, i < 36 → (Lit.int .u8 (a1 i)).wf = true) (w2 : ∀ i, i < 3 → (Lit.int .u8 (a2 i)).wf = true) (w : World) :
    Calls Try.prog 4 #[.agg (ints .u8 4 a0).toArray, .agg (ints .u8 36 a1).toArray, .agg (ints .u8 3 a2).toArray] w fun e w' => e = .returned (.bool true) ∧ Below w.heap.size w w' := by
  rw [ints_arr 4 a0 w0, ints_arr 36 a1 w1, ints_arr 3 a2 w2]
  exact rsLocates_core _ _ _ w
end Go.Proofs.Ytmkjdpokcfeieaa
