/-
  A word's data and its verdict.
-/
import Derived.Test.YtdjknaafefnlcaaDoorRsW12
import Derived.BigRegion
namespace Go.Proofs.YtdjknaafefnlcaaDoor
open Go.RowKit Go.Shelf
open Gf (gI eI dI lI)
open Po (El mu pwr ev S cf toE cv Low rts)
open Rm (al sy At)
attribute [local go_sem] Oper.semAt_some

/-- a word with the symbol mended that the verdict names -/
def mnd (F s : Nat → El) (i : Nat) : El := if vk s = 1 ∧ (i : Int) = vp s then F i ^^^ vv s else F i
theorem vk_one (s : Nat → El) (h : vk s = 1) : ∃ i : Nat, i < 36 ∧ At s i ∧ vp s = (i : Int) ∧ vv s = s 0 := by
  rcases vways s with ⟨_, h1, _⟩ | ⟨_, _, h1, _⟩ | ⟨_, i, hi, hat, _, h1, h2, h3⟩
  · omega
  · omega
  · by_cases h36 : i < 36
    · exact ⟨i, h36, hat, h2, h3⟩
    · rw [if_neg h36] at h1; omega
theorem zero32 (w : World) : (zeroValue 72).run Tryd.prog w = .ok (.agg (arr 32 fun _ => 0).toArray) w := by kernel_rfl
theorem info32 : (Tryd.prog.info? 72).map (·.size) = some 32 := by kernel_rfl
theorem info36 : (Tryd.prog.info? 93).map (·.size) = some 36 := by kernel_rfl
theorem info3 : (Tryd.prog.info? 37).map (·.size) = some 3 := by kernel_rfl
/-- a block that holds a verdict and may be written -/
structure VdAt (W : World) (b : Nat) (x y z : Value) : Prop where
  c0 : W.cell? ⟨b, 0, none⟩ = some x
  c1 : W.cell? ⟨b, 1, none⟩ = some y
  c2 : W.cell? ⟨b, 2, none⟩ = some z
  f : ∀ i, W.frozen? ⟨b, i, none⟩ = false
theorem VdAt.lt {W : World} {b : Nat} {x y z : Value} (h : VdAt W b x y z) : b < W.heap.size := cell_lt h.c0
theorem VdAt.of {W W' : World} {b : Nat} {x y z : Value} (h : VdAt W b x y z) (k : W'.heap[b]? = W.heap[b]?) : VdAt W' b x y z :=
  ⟨(World.cell?_of_block (w := W) (a := ⟨b, 0, none⟩) k).trans h.c0, (World.cell?_of_block (w := W) (a := ⟨b, 1, none⟩) k).trans h.c1, (World.cell?_of_block (w := W) (a := ⟨b, 2, none⟩) k).trans h.c2, fun i => (World.frozen?_of_block (w := W) (a := ⟨b, i, none⟩) k).trans (h.f i)⟩
theorem VdAt.alloc {W : World} {b : Nat} {x y z : Value} (h : VdAt W b x y z) (o : Obj) : VdAt (W.alloc o) b x y z := h.of (Below.heap_alloc W o b h.lt)
theorem VdAt.next {W W' : World} {b : Nat} {x y z : Value} (h : VdAt W b x y z) (k : Below W.heap.size W W') : VdAt W' b x y z := h.of (k.block b h.lt)
theorem VdAt.new (W : World) (x y z : Value) (t : TypeId) : VdAt (W.alloc (.cells #[x, y, z] t)) W.heap.size x y z := by
  refine ⟨?_, ?_, ?_, fun i => ?_⟩ <;> simp [go_sem]
theorem VdAt.there {W : World} {b : Nat} {x y z : Value} (h : VdAt W b x y z) : W.there b 0 3 := there3 h.c0 h.c1 h.c2 (h.f 0) (h.f 1) (h.f 2)
theorem VdAt.range {W : World} {b : Nat} {x y z : Value} (h : VdAt W b x y z) : W.rangeAt b 0 [x, y, z] := fun j v hv => by
  rcases j with _ | _ | _ | j
  · simp at hv; subst hv; exact h.c0
  · simp at hv; subst hv; exact h.c1
  · simp at hv; subst hv; exact h.c2
  · simp at hv

/-- while Decode works: B the first block of the call, D the verdict's, X the word -/
structure DcS (B D : Nat) (X : Nat → El) (K L : Int) (U : El) (w V : World) : Prop where
  a : Blk V B 36 X
  r : Blk V (B + 1 + 1) 32 (fun _ => 0)
  q : VdAt V (B + 1 + 1 + 1) (.int .i64 0) (.int .i64 0) (.int .u8 0)
  v : VdAt V D (.int .i64 K) (.int .i64 L) (.int .u8 (oe U))
  below : Below B w V
  size : V.heap.size = D + 1
structure DcS' (B D : Nat) (X : Nat → El) (K L : Int) (U : El) (w V : World) : Prop where
  a : Blk V B 36 X
  r : Blk V (B + 1 + 1) 32 (fun _ => 0)
  q : VdAt V (B + 1 + 1 + 1) (.int .i64 0) (.int .i64 0) (.int .u8 0)
  v : VdAt V D (.int .i64 K) (.int .i64 L) (.int .u8 (oe U))
  below : Below B w V
set_option maxRecDepth 100000 in
set_option maxHeartbeats 2000000 in
theorem decode5_any (c b : Nat) (F G : Nat → El) (w : World) (hc : CdAt w c b) :
    Calls Tryd.prog 45 #[.pointer (some ⟨c, 0, none⟩), .agg (arr 36 F).toArray, .agg (arr 3 G).toArray] w fun e w' =>
      e = .returned (.tuple #[.agg (arr 32 fun i => mnd F (sy (wd F G)) (4 + i)).toArray, .agg (vd (sy (wd F G)))]) ∧ Below w.heap.size w w' := by
  have hz := zeroVd
  have hz32 := zero32
  have cS : Hid (∀ W, CdAt W c b → Calls Tryd.prog 73 #[.pointer (some ⟨c, 0, none⟩), .agg (arr 36 F).toArray, .agg (arr 3 G).toArray] W fun e w' => e = .returned (.agg (arr 4 (sy (wd F G))).toArray) ∧ Below W.heap.size W w') := fun W h => syndromes_any c b F G W h
  obtain ⟨s, Hs⟩ : ∃ s, Hid (sy (wd F G) = s) := ⟨_, rfl⟩
  rw [Hs.out] at cS ⊢
  have cL : Hid (∀ W, CdAt W c b → Calls Tryd.prog 72 #[.pointer (some ⟨c, 0, none⟩), .agg (arr 4 s).toArray] W fun e w' => e = .returned (.agg (vd s)) ∧ Below W.heap.size W w') := fun W h => locate_any c b s W h
  have hone := vk_one s
  have hmn : ∀ i, mnd F s i = if vk s = 1 ∧ (i : Int) = vp s then F i ^^^ vv s else F i := fun i => rfl
  unfold vd at cL ⊢
  obtain ⟨K, hK⟩ : ∃ K, vk s = K := ⟨_, rfl⟩
  obtain ⟨L, hL⟩ : ∃ L, vp s = L := ⟨_, rfl⟩
  obtain ⟨U, hU⟩ : ∃ U, vv s = U := ⟨_, rfl⟩
  rw [hK, hL, hU] at cL hone ⊢
  simp only [hK, hL, hU] at hmn
  obtain ⟨A0, hA0⟩ : ∃ A, arr 36 F = A := ⟨_, rfl⟩
  obtain ⟨A1, hA1⟩ : ∃ A, arr 3 G = A := ⟨_, rfl⟩
  obtain ⟨A2, hA2⟩ : ∃ A, (arr 32 fun _ => 0) = A := ⟨_, rfl⟩
  obtain ⟨A3, hA3⟩ : ∃ A, arr 4 s = A := ⟨_, rfl⟩
  have i36 : (Tryd.prog.info? 93).map (·.size) = some A0.length := by rw [← hA0, arr_len]; kernel_rfl
  have i3 : (Tryd.prog.info? 37).map (·.size) = some A1.length := by rw [← hA1, arr_len]; kernel_rfl
  rw [hA2] at hz32
  rw [hA0, hA1] at cS ⊢
  rw [hA3] at cS cL
  go_enter Tryd.func45, Tryd.ntmps45
  go_upto_region 1 with (fail)
  obtain ⟨B, hB⟩ : ∃ B, w.heap.size = B := ⟨_, rfl⟩
  obtain ⟨V0, hV0⟩ : ∃ V, (((w.alloc (.cells A0.toArray 93)).alloc (.cells A1.toArray 37)).alloc (.cells A2.toArray 72)).alloc (.cells #[.int .i64 0, .int .i64 0, .int .u8 0] 90) = V := ⟨_, rfl⟩
  have H0 : Hid (Blk V0 B 36 F ∧ Blk V0 (B + 1) 3 G ∧ Blk V0 (B + 1 + 1) 32 (fun _ => 0) ∧ VdAt V0 (B + 1 + 1 + 1) (.int .i64 0) (.int .i64 0) (.int .u8 0) ∧ Below B w V0 ∧ CdAt V0 c b) := by
    have hb : Below B w V0 := by rw [← hV0, ← hB]; exact ((((Below.refl _ w).alloc (Nat.le_refl _) _).alloc (by simp) _).alloc (by simp; omega) _).alloc (by simp; omega) _
    have h0 := Blk.new w 36 F 93
    have h1 := Blk.new (w.alloc (.cells A0.toArray 93)) 3 G 37
    have h2 := Blk.new ((w.alloc (.cells A0.toArray 93)).alloc (.cells A1.toArray 37)) 32 (fun _ => 0) 72
    have h3 := VdAt.new (((w.alloc (.cells A0.toArray 93)).alloc (.cells A1.toArray 37)).alloc (.cells A2.toArray 72)) (.int .i64 0) (.int .i64 0) (.int .u8 0) 90
    simp only [World.size_alloc] at h1 h2 h3
    rw [hA0] at h0
    rw [hA1] at h1
    rw [hA2] at h2
    rw [← hB]
    refine ⟨?_, ?_, ?_, ?_, by rw [hB]; exact hb, hc.next (by rw [hB]; exact hb)⟩ <;> rw [← hV0]
    · exact ((h0.alloc _).alloc _).alloc _
    · exact (h1.alloc _).alloc _
    · exact h2.alloc _
    · exact h3
  have r0 : V0.rangeAt B 0 A0 := by rw [← hA0]; exact H0.out.1.range
  have r1 : V0.rangeAt (B + 1) 0 A1 := by rw [← hA1]; exact H0.out.2.1.range
  have sV0 : Hid (V0.heap.size = B + 1 + 1 + 1 + 1) := by show _ = _; rw [← hV0, ← hB]; simp
  rw [hV0, hB]
  clear hV0 hc
  go_upto_region 2 with (first | refine wpList_load_mid rfl 93 _ rfl _ 0 rfl A0 _ r0 Tryd.underlying93 rfl i36 ?_ | refine wpList_load_mid rfl 37 _ rfl _ 0 rfl A1 _ r1 Tryd.underlying37 rfl i3 ?_ | (go_at_call 73; refine (cS.out _ H0.out.2.2.2.2.2).mono ?_; rintro e V1 ⟨rfl, hB1⟩) | (go_at_call 72; refine (cL.out _ (H0.out.2.2.2.2.2.next hB1)).mono ?_; rintro e V2 ⟨rfl, hB2⟩))
  obtain ⟨D, hD⟩ : ∃ D, V2.heap.size = D := ⟨_, rfl⟩
  obtain ⟨V3, hV3⟩ : ∃ V, V2.alloc (.cells #[.int .i64 K, .int .i64 L, .int .u8 (oe U)] 90) = V := ⟨_, rfl⟩
  have sD : B + 1 + 1 + 1 < D := by have := hB1.size; have := hB2.size; have := sV0.out; omega
  have H3 : Hid (DcS B D F K L U w V3) := by
    obtain ⟨h1, _, h2, h3, h4, _⟩ := H0.out
    have b2 : Below V0.heap.size V0 V2 := hB1.trans (hB2.mono hB1.size)
    have b3 : Below V0.heap.size V0 V3 := by rw [← hV3]; exact b2.alloc b2.size _
    exact ⟨h1.next b3, h2.next b3, h3.next b3, by rw [← hV3, ← hD]; exact VdAt.new V2 _ _ _ _, h4.trans (b3.mono (by have := sV0.out; omega)), by rw [← hV3, World.size_alloc, hD]⟩
  rw [hV3, hD]
  clear hV3 hD hB1 hB2 H0 r0 r1 sV0 cS cL i36 i3
  have k0 := H3.out.v.c0
  have k1 := H3.out.v.c1
  have k2 := H3.out.v.c2
  by_cases hK1 : K = 1
  · obtain ⟨i, hi, h1a, hLi, h1b⟩ := hone hK1
    clear h1a h1b
    subst hLi
    subst hK1
    have cw := H3.out.a.arr i (by omega)
    have fw := H3.out.a.free i
    have ex := oe_xor (F i) U
    have nBD : B ≠ D := by omega
    clear hone
    go_wp2
    go_region
    try rw [ex]
    obtain ⟨X, hXd⟩ : ∃ X : Nat → El, (fun k => if k = i then F i ^^^ U else F k) = X := ⟨_, rfl⟩
    obtain ⟨V4, hV4⟩ : ∃ V, (V3.setCell ⟨B, i, none⟩ (.int .u8 (oe (F i ^^^ U)))).drew = V := ⟨_, rfl⟩
    have H4 : Hid (DcS B D X 1 (i : Int) U w V4) := by
      obtain ⟨h1, h2, h3, h4, h5, h6⟩ := H3.out
      rw [← hV4, ← hXd]
      exact ⟨(h1.set i _).drew, (h2.other (by omega) _ _).drew, h3.of (Below.heap_setCell V3 ⟨B, i, none⟩ _ _ (by simp; omega)), h4.of (Below.heap_setCell V3 ⟨B, i, none⟩ _ D (by simp; omega)), below_drewN (h5.setCell (p := ⟨B, i, none⟩) (by simp) _) 1, (by simp : (V3.setCell ⟨B, i, none⟩ (.int .u8 (oe (F i ^^^ U)))).heap.size = V3.heap.size).trans h6⟩
    have HX : ∀ j, j < 32 → X (4 + j) = mnd F s (4 + j) := fun j hj => by
      rw [hmn, ← hXd]
      by_cases e : 4 + j = i
      · simp [e]
      · have e2 : ¬ (((4 + j : Nat) : Int) = (i : Int)) := by omega
        simp only [if_neg e, e2, and_false, if_false]
    rw [hV4]
    clear hV4 hXd H3 cw fw ex
    have hX : Hid (∀ j, j < 32 → X (4 + j) = mnd F s (4 + j)) := HX
    clear HX hmn
    go_upto_region 5 with (fail)
    clear k0 k1 k2
    have sV4 := H4.out.size
    rw [sV4]
    obtain ⟨V5, hV5⟩ : ∃ V, V4.alloc (.cells A2.toArray 72) = V := ⟨_, rfl⟩
    have H5 : Hid (DcS' B D X 1 (i : Int) U w V5 ∧ Blk V5 (D + 1) 32 (fun _ => 0)) := by
      obtain ⟨h1, h2, h3, h4, h5, h6⟩ := H4.out
      refine ⟨?_, ?_⟩
      · rw [← hV5]; exact ⟨h1.alloc _, h2.alloc _, h3.alloc _, h4.alloc _, h5.alloc (by omega) _⟩
      · have h := Blk.new V4 32 (fun _ => 0) 72
        rw [hA2, hV5, h6] at h; exact h
    rw [hV5]
    clear hV5 H4 sV4
    go_region_held3 (fun _ => True) (trivial)
      (first | (refine step_cpy rfl _ _ rfl (D + 1) 0 32 32 B 4 32 32 32 32 (fun _ => 0) (fun j => X (4 + j)) rfl rfl H5.out.2.drew rfl (fun j hj => H5.out.1.a.arr (4 + j) (by omega)) (by omega) ?_; intro V6 g6 k6))
    have gt : Blk V6 (D + 1) 32 (fun j => mnd F s (4 + j)) := g6.out.congr fun j hj => by
      unfold cpy
      rw [if_pos (by omega), Nat.sub_zero]; exact hX.out j hj
    have H6 : DcS' B D X 1 (i : Int) U w V6 := by
      obtain ⟨h1, h2, h3, h4, h5⟩ := H5.out.1
      exact ⟨h1.of (k6.out.block B (by omega)), h2.of (k6.out.block _ (by omega)), h3.of (k6.out.block _ (by omega)), h4.of (k6.out.block D (by omega)), k6.out.below _ _ (below_drewN h5 1) (by omega)⟩
    have i32 : (Tryd.prog.info? 72).map (·.size) = some (arr 32 (fun j => mnd F s (4 + j))).length := by rw [arr_len]; exact info32
    have o32 := arr_one 32 (fun j => mnd F s (4 + j))
    have rT := gt.range
    have tR : V6.there (B + 1 + 1) 0 (arr 32 (fun j => mnd F s (4 + j))).toArray.size := H6.r.there
    obtain ⟨LT, hLT⟩ : ∃ L, arr 32 (fun j => mnd F s (4 + j)) = L := ⟨_, rfl⟩
    rw [hLT] at i32 o32 rT tR
    have HLT : Hid (arr 32 (fun j => mnd F s (4 + j)) = LT) := hLT
    have rV := H6.v.range
    have tQ := H6.q.there
    have HB6 : Hid (Below B w V6) := H6.below
    clear g6 k6 gt H6 H5 hLT hX
    go_wp2
    obtain ⟨V7, hV7⟩ : ∃ V, (V6.drew.setCells (B + 1 + 1) 0 LT).setCells (B + 1 + 1 + 1) 0 [.int .i64 1, .int .i64 (i : Int), .int .u8 (oe U)] = V := ⟨_, rfl⟩
    refine region_ends (by kernel_rfl) (fun w' => w'.rangeAt (D + 1) 0 LT ∧ w'.rangeAt D 0 [.int .i64 1, .int .i64 (i : Int), .int .u8 (oe U)]) (fun a' w' => a' = ({ tmps := #[.pointer (some ⟨c, 0, none⟩), .agg A0.toArray, .agg A1.toArray, undef, .pointer (some ⟨B, 0, none⟩), .pointer (some ⟨B + 1, 0, none⟩), .pointer (some ⟨B + 1 + 1, 0, none⟩), .pointer (some ⟨B + 1 + 1 + 1, 0, none⟩), .pointer (some ⟨D, 0, none⟩), .pointer (some ⟨D + 1, 0, none⟩), .pointer (some ⟨c, 0, none⟩), .pointer (some ⟨c, 0, none⟩), .agg A0.toArray, .agg A1.toArray, .agg A3.toArray, .agg #[.int .i64 1, .int .i64 (i : Int), .int .u8 (oe U)], .pointer (some ⟨D, 0, none⟩), .int .i64 1, .bool true, .pointer (some ⟨D, 1, none⟩), .int .i64 (i : Int), .pointer (some ⟨B, i, none⟩), .int .u8 (oe (F i)), .pointer (some ⟨D, 2, none⟩), .int .u8 (oe U), .int .u8 (oe (F i ^^^ U)), .pointer (some ⟨B, i, none⟩), .slice (some ⟨D + 1, 0, none⟩) 32 32, .slice (some ⟨B, 4, none⟩) 32 32, goInt 32, .agg LT.toArray, .agg #[.int .i64 1, .int .i64 (i : Int), .int .u8 (oe U)]], defers := [] } : Act) ∧ w' = V7) ⟨rT, rV⟩ (fun hH => ?_) (fun a' w' hr => ?_)
    · refine take_if 0 (v := .agg LT.toArray) rfl (by kernel_rfl) (yieldsIf_load_mid (by rfl) _ _ rfl (D + 1) 0 rfl LT _ (fun w h => h.1) Tryd.underlying72 rfl i32) hH ?_
      show wpAnyH _ _ _ _ _ _ _ ({ tmps := #[.pointer (some ⟨c, 0, none⟩), .agg A0.toArray, .agg A1.toArray, undef, .pointer (some ⟨B, 0, none⟩), .pointer (some ⟨B + 1, 0, none⟩), .pointer (some ⟨B + 1 + 1, 0, none⟩), .pointer (some ⟨B + 1 + 1 + 1, 0, none⟩), .pointer (some ⟨D, 0, none⟩), .pointer (some ⟨D + 1, 0, none⟩), .pointer (some ⟨c, 0, none⟩), .pointer (some ⟨c, 0, none⟩), .agg A0.toArray, .agg A1.toArray, .agg A3.toArray, .agg #[.int .i64 1, .int .i64 (i : Int), .int .u8 (oe U)], .pointer (some ⟨D, 0, none⟩), .int .i64 1, .bool true, .pointer (some ⟨D, 1, none⟩), .int .i64 (i : Int), .pointer (some ⟨B, i, none⟩), .int .u8 (oe (F i)), .pointer (some ⟨D, 2, none⟩), .int .u8 (oe U), .int .u8 (oe (F i ^^^ U)), .pointer (some ⟨B, i, none⟩), .slice (some ⟨D + 1, 0, none⟩) 32 32, .slice (some ⟨B, 4, none⟩) 32 32, goInt 32, .agg LT.toArray, undef], defers := [] } : Act) _
      refine take_if 1 (v := .agg #[.int .i64 1, .int .i64 (i : Int), .int .u8 (oe U)]) rfl (by kernel_rfl) (yieldsIf_load_mid (by rfl) _ _ rfl D 0 rfl [.int .i64 1, .int .i64 (i : Int), .int .u8 (oe U)] _ (fun w h => h.2) Tryd.underlying90 rfl infoVd) hH ?_
      show wpAnyH _ _ _ _ _ _ _ ({ tmps := #[.pointer (some ⟨c, 0, none⟩), .agg A0.toArray, .agg A1.toArray, undef, .pointer (some ⟨B, 0, none⟩), .pointer (some ⟨B + 1, 0, none⟩), .pointer (some ⟨B + 1 + 1, 0, none⟩), .pointer (some ⟨B + 1 + 1 + 1, 0, none⟩), .pointer (some ⟨D, 0, none⟩), .pointer (some ⟨D + 1, 0, none⟩), .pointer (some ⟨c, 0, none⟩), .pointer (some ⟨c, 0, none⟩), .agg A0.toArray, .agg A1.toArray, .agg A3.toArray, .agg #[.int .i64 1, .int .i64 (i : Int), .int .u8 (oe U)], .pointer (some ⟨D, 0, none⟩), .int .i64 1, .bool true, .pointer (some ⟨D, 1, none⟩), .int .i64 (i : Int), .pointer (some ⟨B, i, none⟩), .int .u8 (oe (F i)), .pointer (some ⟨D, 2, none⟩), .int .u8 (oe U), .int .u8 (oe (F i ^^^ U)), .pointer (some ⟨B, i, none⟩), .slice (some ⟨D + 1, 0, none⟩) 32 32, .slice (some ⟨B, 4, none⟩) 32 32, goInt 32, .agg LT.toArray, .agg #[.int .i64 1, .int .i64 (i : Int), .int .u8 (oe U)]], defers := [] } : Act) _
      refine take_one 2 rfl rfl (by kernel_rfl) ?_
      refine wp_store_mid 72 _ _ rfl (B + 1 + 1) 0 LT.toArray rfl rfl tR (by rw [i32]; simp) o32 ?_
      have hS2 : (V6.drew.setCells (B + 1 + 1) 0 LT).rangeAt (D + 1) 0 LT ∧ (V6.drew.setCells (B + 1 + 1) 0 LT).rangeAt D 0 [.int .i64 1, .int .i64 (i : Int), .int .u8 (oe U)] := ⟨World.rangeAt_setCells_apart (w := V6.drew) rT _ 0 LT (.inl (by omega)), World.rangeAt_setCells_apart (w := V6.drew) rV _ 0 LT (.inl (by omega))⟩
      refine ⟨hS2, fun hH => ?_⟩
      show wpAnyH _ _ _ _ _ _ _ ({ tmps := #[.pointer (some ⟨c, 0, none⟩), .agg A0.toArray, .agg A1.toArray, undef, .pointer (some ⟨B, 0, none⟩), .pointer (some ⟨B + 1, 0, none⟩), .pointer (some ⟨B + 1 + 1, 0, none⟩), .pointer (some ⟨B + 1 + 1 + 1, 0, none⟩), .pointer (some ⟨D, 0, none⟩), .pointer (some ⟨D + 1, 0, none⟩), .pointer (some ⟨c, 0, none⟩), .pointer (some ⟨c, 0, none⟩), .agg A0.toArray, .agg A1.toArray, .agg A3.toArray, .agg #[.int .i64 1, .int .i64 (i : Int), .int .u8 (oe U)], .pointer (some ⟨D, 0, none⟩), .int .i64 1, .bool true, .pointer (some ⟨D, 1, none⟩), .int .i64 (i : Int), .pointer (some ⟨B, i, none⟩), .int .u8 (oe (F i)), .pointer (some ⟨D, 2, none⟩), .int .u8 (oe U), .int .u8 (oe (F i ^^^ U)), .pointer (some ⟨B, i, none⟩), .slice (some ⟨D + 1, 0, none⟩) 32 32, .slice (some ⟨B, 4, none⟩) 32 32, goInt 32, .agg LT.toArray, .agg #[.int .i64 1, .int .i64 (i : Int), .int .u8 (oe U)]], defers := [] } : Act) _
      refine take_one 3 rfl rfl (by kernel_rfl) ?_
      refine wp_store_mid 90 _ _ rfl (B + 1 + 1 + 1) 0 #[.int .i64 1, .int .i64 (i : Int), .int .u8 (oe U)] rfl rfl (World.there_setCells (w := V6.drew) tQ _ 0 LT) infoVd (by simp [Value.oneCell']) ?_
      refine ⟨⟨World.rangeAt_setCells_apart hS2.1 _ 0 _ (.inl (by omega)), World.rangeAt_setCells_apart hS2.2 _ 0 _ (.inl (by omega))⟩, fun hH => ?_⟩
      exact wpAnyH_done (by kernel_rfl) ⟨rfl, hV7⟩ _
    · obtain ⟨ha, hw⟩ := hr
      rw [ha, hw]
      clear ha hw a' w'
      have rg1 : V7.rangeAt (B + 1 + 1) 0 LT := by
        rw [← hV7]
        exact World.rangeAt_setCells_apart (World.rangeAt_setCells_same V6.drew _ 0 LT (by simpa using tR)) _ 0 _ (.inl (by omega))
      have rg2 : V7.rangeAt (B + 1 + 1 + 1) 0 [.int .i64 1, .int .i64 (i : Int), .int .u8 (oe U)] := by
        rw [← hV7]
        exact World.rangeAt_setCells_same _ _ 0 _ (World.there_setCells (w := V6.drew) tQ _ 0 LT)
      have HB7 : Hid (Below B w V7) := by
        rw [← hV7]
        exact below_puts (below_puts (below_drewN HB6.out 1) (by omega) 0 LT) (by omega) 0 _
      have hld1 := run_loadVar_mid (P := Tryd.prog) _ (B + 1 + 1) 0 72 LT _ rg1 Tryd.underlying72 rfl i32
      have hld2 := run_loadVar_mid (P := Tryd.prog) _ (B + 1 + 1 + 1) 0 90 _ _ rg2 Tryd.underlying90 rfl infoVd
      clear rg1 rg2 hV7 rT rV tR tQ i32 o32
      go_wp2
      refine bodyPost_ret (v := .tuple #[.agg LT.toArray, .agg #[.int .i64 1, .int .i64 (i : Int), .int .u8 (oe U)]]) ?_ rfl ⟨by rw [HLT.out], by first | exact HB7.out | (rw [hB]; exact HB7.out)⟩
      simp [results, Tryd.f45, asAddr, hld1, hld2]
  · have hd1 : (K == 1) = false := by simpa using hK1
    obtain ⟨X, hXd⟩ : ∃ X : Nat → El, F = X := ⟨_, rfl⟩
    have HX : ∀ j, j < 32 → X (4 + j) = mnd F s (4 + j) := fun j hj => by
      rw [hmn, ← hXd, if_neg (fun h => hK1 h.1)]
    obtain ⟨V4, hV4⟩ : ∃ V, V3 = V := ⟨_, rfl⟩
    have H4 : Hid (DcS B D X K L U w V4) := by rw [← hXd, ← hV4]; exact H3.out
    rw [hV4] at k0 ⊢
    clear hV4 hXd H3 hone hK1
    have hX : Hid (∀ j, j < 32 → X (4 + j) = mnd F s (4 + j)) := HX
    clear HX hmn
    go_upto_region 5 with (fail)
    clear k0 k1 k2
    have sV4 := H4.out.size
    rw [sV4]
    obtain ⟨V5, hV5⟩ : ∃ V, V4.alloc (.cells A2.toArray 72) = V := ⟨_, rfl⟩
    have H5 : Hid (DcS' B D X K L U w V5 ∧ Blk V5 (D + 1) 32 (fun _ => 0)) := by
      obtain ⟨h1, h2, h3, h4, h5, h6⟩ := H4.out
      refine ⟨?_, ?_⟩
      · rw [← hV5]; exact ⟨h1.alloc _, h2.alloc _, h3.alloc _, h4.alloc _, h5.alloc (by omega) _⟩
      · have h := Blk.new V4 32 (fun _ => 0) 72
        rw [hA2, hV5, h6] at h; exact h
    rw [hV5]
    clear hV5 H4 sV4
    go_region_held3 (fun _ => True) (trivial)
      (first | (refine step_cpy rfl _ _ rfl (D + 1) 0 32 32 B 4 32 32 32 32 (fun _ => 0) (fun j => X (4 + j)) rfl rfl H5.out.2.drew rfl (fun j hj => H5.out.1.a.arr (4 + j) (by omega)) (by omega) ?_; intro V6 g6 k6))
    have gt : Blk V6 (D + 1) 32 (fun j => mnd F s (4 + j)) := g6.out.congr fun j hj => by
      unfold cpy
      rw [if_pos (by omega), Nat.sub_zero]; exact hX.out j hj
    have H6 : DcS' B D X K L U w V6 := by
      obtain ⟨h1, h2, h3, h4, h5⟩ := H5.out.1
      exact ⟨h1.of (k6.out.block B (by omega)), h2.of (k6.out.block _ (by omega)), h3.of (k6.out.block _ (by omega)), h4.of (k6.out.block D (by omega)), k6.out.below _ _ (below_drewN h5 1) (by omega)⟩
    have i32 : (Tryd.prog.info? 72).map (·.size) = some (arr 32 (fun j => mnd F s (4 + j))).length := by rw [arr_len]; exact info32
    have o32 := arr_one 32 (fun j => mnd F s (4 + j))
    have rT := gt.range
    have tR : V6.there (B + 1 + 1) 0 (arr 32 (fun j => mnd F s (4 + j))).toArray.size := H6.r.there
    obtain ⟨LT, hLT⟩ : ∃ L, arr 32 (fun j => mnd F s (4 + j)) = L := ⟨_, rfl⟩
    rw [hLT] at i32 o32 rT tR
    have HLT : Hid (arr 32 (fun j => mnd F s (4 + j)) = LT) := hLT
    have rV := H6.v.range
    have tQ := H6.q.there
    have HB6 : Hid (Below B w V6) := H6.below
    clear g6 k6 gt H6 H5 hLT hX
    go_wp2
    obtain ⟨V7, hV7⟩ : ∃ V, (V6.drew.setCells (B + 1 + 1) 0 LT).setCells (B + 1 + 1 + 1) 0 [.int .i64 K, .int .i64 L, .int .u8 (oe U)] = V := ⟨_, rfl⟩
    refine region_ends (by kernel_rfl) (fun w' => w'.rangeAt (D + 1) 0 LT ∧ w'.rangeAt D 0 [.int .i64 K, .int .i64 L, .int .u8 (oe U)]) (fun a' w' => a' = ({ tmps := #[.pointer (some ⟨c, 0, none⟩), .agg A0.toArray, .agg A1.toArray, undef, .pointer (some ⟨B, 0, none⟩), .pointer (some ⟨B + 1, 0, none⟩), .pointer (some ⟨B + 1 + 1, 0, none⟩), .pointer (some ⟨B + 1 + 1 + 1, 0, none⟩), .pointer (some ⟨D, 0, none⟩), .pointer (some ⟨D + 1, 0, none⟩), .pointer (some ⟨c, 0, none⟩), .pointer (some ⟨c, 0, none⟩), .agg A0.toArray, .agg A1.toArray, .agg A3.toArray, .agg #[.int .i64 K, .int .i64 L, .int .u8 (oe U)], .pointer (some ⟨D, 0, none⟩), .int .i64 K, .bool false, undef, undef, undef, undef, undef, undef, undef, undef, .slice (some ⟨D + 1, 0, none⟩) 32 32, .slice (some ⟨B, 4, none⟩) 32 32, goInt 32, .agg LT.toArray, .agg #[.int .i64 K, .int .i64 L, .int .u8 (oe U)]], defers := [] } : Act) ∧ w' = V7) ⟨rT, rV⟩ (fun hH => ?_) (fun a' w' hr => ?_)
    · refine take_if 0 (v := .agg LT.toArray) rfl (by kernel_rfl) (yieldsIf_load_mid (by rfl) _ _ rfl (D + 1) 0 rfl LT _ (fun w h => h.1) Tryd.underlying72 rfl i32) hH ?_
      show wpAnyH _ _ _ _ _ _ _ ({ tmps := #[.pointer (some ⟨c, 0, none⟩), .agg A0.toArray, .agg A1.toArray, undef, .pointer (some ⟨B, 0, none⟩), .pointer (some ⟨B + 1, 0, none⟩), .pointer (some ⟨B + 1 + 1, 0, none⟩), .pointer (some ⟨B + 1 + 1 + 1, 0, none⟩), .pointer (some ⟨D, 0, none⟩), .pointer (some ⟨D + 1, 0, none⟩), .pointer (some ⟨c, 0, none⟩), .pointer (some ⟨c, 0, none⟩), .agg A0.toArray, .agg A1.toArray, .agg A3.toArray, .agg #[.int .i64 K, .int .i64 L, .int .u8 (oe U)], .pointer (some ⟨D, 0, none⟩), .int .i64 K, .bool false, undef, undef, undef, undef, undef, undef, undef, undef, .slice (some ⟨D + 1, 0, none⟩) 32 32, .slice (some ⟨B, 4, none⟩) 32 32, goInt 32, .agg LT.toArray, undef], defers := [] } : Act) _
      refine take_if 1 (v := .agg #[.int .i64 K, .int .i64 L, .int .u8 (oe U)]) rfl (by kernel_rfl) (yieldsIf_load_mid (by rfl) _ _ rfl D 0 rfl [.int .i64 K, .int .i64 L, .int .u8 (oe U)] _ (fun w h => h.2) Tryd.underlying90 rfl infoVd) hH ?_
      show wpAnyH _ _ _ _ _ _ _ ({ tmps := #[.pointer (some ⟨c, 0, none⟩), .agg A0.toArray, .agg A1.toArray, undef, .pointer (some ⟨B, 0, none⟩), .pointer (some ⟨B + 1, 0, none⟩), .pointer (some ⟨B + 1 + 1, 0, none⟩), .pointer (some ⟨B + 1 + 1 + 1, 0, none⟩), .pointer (some ⟨D, 0, none⟩), .pointer (some ⟨D + 1, 0, none⟩), .pointer (some ⟨c, 0, none⟩), .pointer (some ⟨c, 0, none⟩), .agg A0.toArray, .agg A1.toArray, .agg A3.toArray, .agg #[.int .i64 K, .int .i64 L, .int .u8 (oe U)], .pointer (some ⟨D, 0, none⟩), .int .i64 K, .bool false, undef, undef, undef, undef, undef, undef, undef, undef, .slice (some ⟨D + 1, 0, none⟩) 32 32, .slice (some ⟨B, 4, none⟩) 32 32, goInt 32, .agg LT.toArray, .agg #[.int .i64 K, .int .i64 L, .int .u8 (oe U)]], defers := [] } : Act) _
      refine take_one 2 rfl rfl (by kernel_rfl) ?_
      refine wp_store_mid 72 _ _ rfl (B + 1 + 1) 0 LT.toArray rfl rfl tR (by rw [i32]; simp) o32 ?_
      have hS2 : (V6.drew.setCells (B + 1 + 1) 0 LT).rangeAt (D + 1) 0 LT ∧ (V6.drew.setCells (B + 1 + 1) 0 LT).rangeAt D 0 [.int .i64 K, .int .i64 L, .int .u8 (oe U)] := ⟨World.rangeAt_setCells_apart (w := V6.drew) rT _ 0 LT (.inl (by omega)), World.rangeAt_setCells_apart (w := V6.drew) rV _ 0 LT (.inl (by omega))⟩
      refine ⟨hS2, fun hH => ?_⟩
      show wpAnyH _ _ _ _ _ _ _ ({ tmps := #[.pointer (some ⟨c, 0, none⟩), .agg A0.toArray, .agg A1.toArray, undef, .pointer (some ⟨B, 0, none⟩), .pointer (some ⟨B + 1, 0, none⟩), .pointer (some ⟨B + 1 + 1, 0, none⟩), .pointer (some ⟨B + 1 + 1 + 1, 0, none⟩), .pointer (some ⟨D, 0, none⟩), .pointer (some ⟨D + 1, 0, none⟩), .pointer (some ⟨c, 0, none⟩), .pointer (some ⟨c, 0, none⟩), .agg A0.toArray, .agg A1.toArray, .agg A3.toArray, .agg #[.int .i64 K, .int .i64 L, .int .u8 (oe U)], .pointer (some ⟨D, 0, none⟩), .int .i64 K, .bool false, undef, undef, undef, undef, undef, undef, undef, undef, .slice (some ⟨D + 1, 0, none⟩) 32 32, .slice (some ⟨B, 4, none⟩) 32 32, goInt 32, .agg LT.toArray, .agg #[.int .i64 K, .int .i64 L, .int .u8 (oe U)]], defers := [] } : Act) _
      refine take_one 3 rfl rfl (by kernel_rfl) ?_
      refine wp_store_mid 90 _ _ rfl (B + 1 + 1 + 1) 0 #[.int .i64 K, .int .i64 L, .int .u8 (oe U)] rfl rfl (World.there_setCells (w := V6.drew) tQ _ 0 LT) infoVd (by simp [Value.oneCell']) ?_
      refine ⟨⟨World.rangeAt_setCells_apart hS2.1 _ 0 _ (.inl (by omega)), World.rangeAt_setCells_apart hS2.2 _ 0 _ (.inl (by omega))⟩, fun hH => ?_⟩
      exact wpAnyH_done (by kernel_rfl) ⟨rfl, hV7⟩ _
    · obtain ⟨ha, hw⟩ := hr
      rw [ha, hw]
      clear ha hw a' w'
      have rg1 : V7.rangeAt (B + 1 + 1) 0 LT := by
        rw [← hV7]
        exact World.rangeAt_setCells_apart (World.rangeAt_setCells_same V6.drew _ 0 LT (by simpa using tR)) _ 0 _ (.inl (by omega))
      have rg2 : V7.rangeAt (B + 1 + 1 + 1) 0 [.int .i64 K, .int .i64 L, .int .u8 (oe U)] := by
        rw [← hV7]
        exact World.rangeAt_setCells_same _ _ 0 _ (World.there_setCells (w := V6.drew) tQ _ 0 LT)
      have HB7 : Hid (Below B w V7) := by
        rw [← hV7]
        exact below_puts (below_puts (below_drewN HB6.out 1) (by omega) 0 LT) (by omega) 0 _
      have hld1 := run_loadVar_mid (P := Tryd.prog) _ (B + 1 + 1) 0 72 LT _ rg1 Tryd.underlying72 rfl i32
      have hld2 := run_loadVar_mid (P := Tryd.prog) _ (B + 1 + 1 + 1) 0 90 _ _ rg2 Tryd.underlying90 rfl infoVd
      clear rg1 rg2 hV7 rT rV tR tQ i32 o32
      go_wp2
      refine bodyPost_ret (v := .tuple #[.agg LT.toArray, .agg #[.int .i64 K, .int .i64 L, .int .u8 (oe U)]]) ?_ rfl ⟨by rw [HLT.out], by first | exact HB7.out | (rw [hB]; exact HB7.out)⟩
      simp [results, Tryd.f45, asAddr, hld1, hld2]
end Go.Proofs.YtdjknaafefnlcaaDoor
