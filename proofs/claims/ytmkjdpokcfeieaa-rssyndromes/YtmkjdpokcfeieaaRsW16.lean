/-
  The document's example: the code that answers it; a word's verdict.
-/
import Derived.Test.YtmkjdpokcfeieaaRsW13
import Derived.Test.YtmkjdpokcfeieaaRsW14
import Derived.Test.YtmkjdpokcfeieaaRsW15
namespace Go.Proofs.Ytmkjdpokcfeieaa
open Go.RowKit Go.Shelf
open Gf (gI eI dI lI)
open Po (El mu pwr ev S cf toE cv Low rts)
open Rm (al sy At IsCode)
attribute [local go_sem] Oper.semAt_some

theorem code_noughts {W : Nat → El} (h : IsCode W) : Nought (sy W) := ⟨h 0 (by omega), h 1 (by omega), h 2 (by omega), h 3 (by omega)⟩
theorem vd_clean {s : Nat → El} (h : Nought s) : vd s = #[.int .i64 0, .int .i64 (-1), .int .u8 0] := by
  unfold vd vk vp vv
  rw [if_pos h, if_pos h, if_pos h]; rfl
theorem vk_clean {s : Nat → El} (h : Nought s) : vk s = 0 := by unfold vk; rw [if_pos h]
theorem at_not_nought {s : Nat → El} {i : Nat} (h : At s i) : ¬ Nought s := fun n => h.1 n.1
theorem plc_at {s : Nat → El} {i : Nat} (hi : i < 39) (h : At s i) : plc s 39 0 = (i : Int) :=
  plc_some s 39 0 i (by omega) (by omega) h fun l _ hl hat => by have := Rm.at_only (by omega) hi hat h; omega
theorem v_at {s : Nat → El} {i : Nat} (hi : i < 39) (h : At s i) : vk s = (if i < 36 then 1 else 2) ∧ vp s = (i : Int) ∧ vv s = s 0 := by
  have hp := plc_at hi h
  have hn := at_not_nought h
  unfold vk vp vv
  have hm : ¬ ((i : Int) = -1) := by omega
  rw [if_neg hn, if_neg hn, if_neg hn, hp, if_neg hm, if_neg hm]
  refine ⟨?_, rfl, rfl⟩
  by_cases h36 : i < 36
  · rw [if_pos h36, if_neg (show ¬ (35 < (i : Int)) by omega)]
  · rw [if_neg h36, if_pos (show 35 < (i : Int) by omega)]
theorem v_lost {s : Nat → El} (hn : ¬ Nought s) (h : ∀ i, i < 39 → ¬ At s i) : vd s = #[.int .i64 3, .int .i64 (-1), .int .u8 0] := by
  have hp : plc s 39 0 = -1 := plc_none s 39 0 fun j _ hj => h j (by omega)
  unfold vd vk vp vv
  rw [if_neg hn, if_neg hn, if_neg hn, hp]; rfl
theorem sy_congr {W U : Nat → El} (h : ∀ i, i < 39 → W i = U i) : sy W = sy U := by
  funext j
  unfold sy ev
  exact Po.S_congr _ _ _ fun i hi => by rw [h i hi]
theorem sy_zero : Nought (sy fun _ => 0) := by
  have h : ∀ j, sy (fun _ => 0) j = 0 := fun j => Po.S_null _ _ fun i _ => Po.zero_mu _
  exact ⟨h 0, h 1, h 2, h 3⟩
/-- the example's two verdicts -/
theorem vd_noughts (F G : Nat → El) (hF : ∀ i, i < 36 → F i = 0) (hG : ∀ i, i < 3 → G i = 0) : vd (sy (wd F G)) = #[.int .i64 0, .int .i64 (-1), .int .u8 0] := by
  refine vd_clean ?_
  rw [sy_congr (U := fun _ => 0) fun i hi => ?_]
  · exact sy_zero
  · unfold wd
    by_cases h : i < 36
    · rw [if_pos h, hF i h]
    · rw [if_neg h, hG _ (by omega)]
theorem vd_nine (F G : Nat → El) (hF : ∀ i, i < 36 → F i = if i = 4 then 9 else 0) (hG : ∀ i, i < 3 → G i = 0) : vd (sy (wd F G)) = #[.int .i64 1, .int .i64 4, .int .u8 9] := by
  have e : sy (wd F G) = sy (Rm.one' 4 9) := sy_congr fun i hi => by
    unfold wd Rm.one'
    by_cases h : i < 36
    · rw [if_pos h, hF i h]
    · rw [if_neg h, hG _ (by omega), if_neg (by omega)]
  rw [e]
  have hat := Rm.sy_one 4 9 (by omega) (by decide)
  obtain ⟨h1, h2, h3⟩ := v_at (by omega) hat
  unfold vd
  rw [h1, h2, h3, Rm.sy_one0 4 9 (by omega)]; rfl
theorem decode_told (c b : Nat) (F G : Nat → El) (W : World) (h : CdAt W c b) (V : Array Value) (hV : vd (sy (wd F G)) = V) : ∃ R : List Value, R.length = 32 ∧ R.toArray.all (·.oneCell') = true ∧
    Calls Try.prog 19 #[.pointer (some ⟨c, 0, none⟩), .agg (arr 36 F).toArray, .agg (arr 3 G).toArray] W fun e w' => e = .returned (.tuple #[.agg R.toArray, .agg V]) ∧ Below W.heap.size W w' := by
  subst hV
  exact ⟨arr 32 fun i => mnd F (sy (wd F G)) (4 + i), arr_len _ _, arr_one _ _, decode_any c b F G W h⟩
/-- where a pair of data and verdict is laid -/
theorem pair_t1 {A R : List Value} (hA : (arr 32 fun _ => 0) = A) (hR : R.length = 32) (W : World) (t : TypeId) (o : Obj) : ((W.alloc (.cells A.toArray t)).alloc o).there W.heap.size 0 R.toArray.size := by
  have h := (Blk.new W 32 (fun _ => 0) t).alloc o
  rw [hA] at h
  rw [show R.toArray.size = 32 from by simpa using hR]; exact h.arrW.there
theorem pair_t2 (W : World) (o : Obj) (t : TypeId) (R : List Value) (n : Nat) : (((W.alloc o).alloc (.cells #[.int .i64 0, .int .i64 0, .int .u8 0] t)).setCells n 0 R).there (W.heap.size + 1) 0 3 := by
  have h := VdAt.new (W.alloc o) (.int .i64 0) (.int .i64 0) (.int .u8 0) t
  rw [World.size_alloc] at h
  exact World.there_setCells h.there _ 0 R
theorem pair_laid (W : World) (o : Obj) (t : TypeId) (R : List Value) (x y z : Value) (X : World) (hX : (((W.alloc o).alloc (.cells #[.int .i64 0, .int .i64 0, .int .u8 0] t)).setCells W.heap.size 0 R).setCells (W.heap.size + 1) 0 [x, y, z] = X) :
    VdAt X (W.heap.size + 1) x y z ∧ Below W.heap.size W X ∧ X.heap.size = W.heap.size + 2 := by
  have hr : X.rangeAt (W.heap.size + 1) 0 [x, y, z] := by rw [← hX]; exact World.rangeAt_setCells_same _ _ 0 [x, y, z] (pair_t2 W o t R _)
  refine ⟨⟨by have := hr 0 x rfl; simpa using this, by have := hr 1 y rfl; simpa using this, by have := hr 2 z rfl; simpa using this, fun i => ?_⟩, ?_, ?_⟩
  · rw [← hX, World.frozen?_setCells, World.frozen?_setCells]
    have h := VdAt.new (W.alloc o) (.int .i64 0) (.int .i64 0) (.int .u8 0) t
    rw [World.size_alloc] at h
    exact h.f i
  · rw [← hX]
    exact below_puts (below_puts (((Below.refl _ W).alloc (Nat.le_refl _) _).alloc (by simp) _) (Nat.le_refl _) 0 R) (by omega) 0 _
  · rw [← hX, size_sets, size_sets]; simp
theorem zero3 (w : World) : (zeroValue 23).run Try.prog w = .ok (.agg (arr 3 fun _ => 0).toArray) w := by kernel_rfl

set_option maxRecDepth 100000 in
set_option maxHeartbeats 2000000 in
theorem coded_any (w : World) :
    Calls Try.prog 10 #[] w fun e w' => ∃ c b, e = .returned (.pointer (some ⟨c, 0, none⟩)) ∧ CdAt w' c b ∧ Below w.heap.size w w' ∧ w.heap.size ≤ c ∧ w.heap.size ≤ b := by
  have hz36 := zero36
  have hz32 := zero32
  have hz3 := zero3
  have hz := zeroVd
  go_enter Try.func10, Try.ntmps10
  go_upto_region 2 with (first | (go_at_call 20; refine (new_any _).mono ?_; rintro e w' ⟨rfl, rfl⟩) | (go_at_call 24; refine (rsnew_any _ _ (by exact fldAt_new _ _)).mono ?_; rintro e V0 ⟨rfl, hC, hB0⟩))
  obtain ⟨c, hcd⟩ : ∃ c, w.heap.size + 1 = c := ⟨_, rfl⟩
  obtain ⟨b, hbd⟩ : ∃ b, w.heap.size = b := ⟨_, rfl⟩
  have H0 : Hid (CdAt V0 c b ∧ Below w.heap.size w V0) := by
    rw [World.size_alloc] at hC hB0
    exact ⟨by rw [← hcd, ← hbd]; exact hC, ((Below.refl _ w).alloc (Nat.le_refl _) _).trans (hB0.mono (by omega))⟩
  rw [hcd]
  try rw [hbd]
  clear hC hB0
  obtain ⟨A0, hA0⟩ : ∃ A, (arr 36 fun _ => 0) = A := ⟨_, rfl⟩
  obtain ⟨A1, hA1⟩ : ∃ A, (arr 3 fun _ => 0) = A := ⟨_, rfl⟩
  obtain ⟨A2, hA2⟩ : ∃ A, (arr 32 fun _ => 0) = A := ⟨_, rfl⟩
  obtain ⟨A3, hA3⟩ : ∃ A, (arr 36 fun i => if i = 4 then 9 else 0) = A := ⟨_, rfl⟩
  have c1 : Hid (∀ W, CdAt W c b → ∃ R : List Value, R.length = 32 ∧ R.toArray.all (·.oneCell') = true ∧ Calls Try.prog 19 #[.pointer (some ⟨c, 0, none⟩), .agg A0.toArray, .agg A1.toArray] W fun e w' => e = .returned (.tuple #[.agg R.toArray, .agg #[.int .i64 0, .int .i64 (-1), .int .u8 0]]) ∧ Below W.heap.size W w') := fun W h => by
    rw [← hA0, ← hA1]
    exact decode_told c b _ _ W h _ (vd_noughts _ _ (fun _ _ => rfl) (fun _ _ => rfl))
  have c2 : Hid (∀ W, CdAt W c b → ∃ R : List Value, R.length = 32 ∧ R.toArray.all (·.oneCell') = true ∧ Calls Try.prog 19 #[.pointer (some ⟨c, 0, none⟩), .agg A3.toArray, .agg A1.toArray] W fun e w' => e = .returned (.tuple #[.agg R.toArray, .agg #[.int .i64 1, .int .i64 4, .int .u8 9]]) ∧ Below W.heap.size W w') := fun W h => by
    rw [← hA3, ← hA1]
    exact decode_told c b _ _ W h _ (vd_nine _ _ (fun _ _ => rfl) (fun _ _ => rfl))
  have i36 : (Try.prog.info? 24).map (·.size) = some A0.length := by rw [← hA0, arr_len]; kernel_rfl
  have j36 : (Try.prog.info? 24).map (·.size) = some A3.length := by rw [← hA3, arr_len]; kernel_rfl
  rw [hA0] at hz36
  rw [hA1] at hz3
  rw [hA2] at hz32
  go_upto_region 5 with (fail)
  obtain ⟨N, hN⟩ : ∃ N, V0.heap.size = N := ⟨_, rfl⟩
  obtain ⟨V1, hV1⟩ : ∃ V, V0.alloc (.cells A0.toArray 24) = V := ⟨_, rfl⟩
  have H1 : Hid (Blk V1 N 36 (fun _ => 0) ∧ CdAt V1 c b ∧ Below w.heap.size w V1) := by
    refine ⟨?_, ?_, ?_⟩
    · have h := Blk.new V0 36 (fun _ => 0) 24
      rw [hA0, hV1, hN] at h; exact h
    · rw [← hV1]; exact H0.out.1.next ((Below.refl _ _).alloc (Nat.le_refl _) _)
    · rw [← hV1]; exact H0.out.2.alloc H0.out.2.size _
  have hwN : Hid (w.heap.size ≤ N ∧ c ≠ N ∧ b ≠ N) := by
    have h1 := H0.out.2.size
    have h2 := H0.out.1.lt
    have h3 := H0.out.1.fld.lt
    exact ⟨by omega, by omega, by omega⟩
  try rw [hV1]
  try rw [hN]
  have r1 : V1.rangeAt N 0 A0 := by rw [← hA0]; exact H1.out.1.range
  obtain ⟨R, hR1, hR2, hD⟩ := c1.out V1 H1.out.2.1
  have HD : Hid (Calls Try.prog 19 #[.pointer (some ⟨c, 0, none⟩), .agg A0.toArray, .agg A1.toArray] V1 fun e w' => e = .returned (.tuple #[.agg R.toArray, .agg #[.int .i64 0, .int .i64 (-1), .int .u8 0]]) ∧ Below V1.heap.size V1 w') := hD
  have iR : (Try.prog.info? 22).map (·.size) = some R.length := by rw [hR1]; kernel_rfl
  clear hD hV1 hN H0 c1
  go_upto_region 6 with (first | refine wpList_load_mid rfl 24 _ rfl N 0 rfl A0 _ r1 Try.underlying24 rfl i36 ?_ | (go_at_call 19; refine (HD.out).mono ?_; rintro e V2 ⟨rfl, hB2⟩) | refine wpList_store_mid rfl 22 _ _ rfl _ 0 R.toArray rfl rfl (pair_t1 hA2 hR1 _ _ _) iR hR2 ?_ | refine wpList_store_mid rfl 40 _ _ rfl _ 0 #[.int .i64 0, .int .i64 (-1), .int .u8 0] rfl rfl (pair_t2 _ _ _ _ _) infoVd (by simp [Value.oneCell']) ?_)
  obtain ⟨V3, hV3⟩ : ∃ V, (((V2.alloc (.cells A2.toArray 22)).alloc (.cells #[.int .i64 0, .int .i64 0, .int .u8 0] 40)).setCells V2.heap.size 0 R).setCells (V2.heap.size + 1) 0 [.int .i64 0, .int .i64 (-1), .int .u8 0] = V := ⟨_, rfl⟩
  obtain ⟨v3, b3, s3⟩ := pair_laid V2 _ _ R _ _ _ V3 hV3
  obtain ⟨Q, hQ⟩ : ∃ Q, V2.heap.size + 1 = Q := ⟨_, rfl⟩
  have bb3 : Below V1.heap.size V1 V3 := hB2.trans (b3.mono hB2.size)
  rw [hQ] at v3
  have H3 : Hid (Blk V3 N 36 (fun _ => 0) ∧ CdAt V3 c b ∧ VdAt V3 Q (.int .i64 0) (.int .i64 (-1)) (.int .u8 0) ∧ Below w.heap.size w V3 ∧ N < Q ∧ c < Q ∧ b < Q) := by
    obtain ⟨h1, h2, h3⟩ := H1.out
    have := h1.lt
    have := h2.lt
    have := h2.fld.lt
    have := hB2.size
    exact ⟨h1.next bb3, h2.next bb3, v3, h3.trans (bb3.mono h3.size), by omega, by omega, by omega⟩
  have cN := H3.out.1.arr 4 (by omega)
  have fN := H3.out.1.free 4
  rw [oe_zero] at cN
  simp only [Act.put]
  rw [hV3, hQ]
  clear hV3 v3 b3 bb3 hB2 H1 r1 HD hQ s3
  go_upto_region 7 with (fail)
  obtain ⟨V4, hV4⟩ : ∃ V, V3.setCell ⟨N, 4, none⟩ (.int .u8 9) = V := ⟨_, rfl⟩
  have H4 : Hid (Blk V4 N 36 (fun i => if i = 4 then 9 else 0) ∧ CdAt V4 c b ∧ VdAt V4 Q (.int .i64 0) (.int .i64 (-1)) (.int .u8 0) ∧ Below w.heap.size w V4 ∧ w.heap.size ≤ N) := by
    obtain ⟨h1, h2, h3, h4, h5, h6, h7⟩ := H3.out
    rw [← hV4]
    have hNw : w.heap.size ≤ N ∧ c ≠ N ∧ b ≠ N := hwN.out
    exact ⟨h1.set 4 9, h2.of (Below.heap_setCell V3 ⟨N, 4, none⟩ _ c (by simp; omega)) (Below.heap_setCell V3 ⟨N, 4, none⟩ _ b (by simp; omega)), h3.of (Below.heap_setCell V3 ⟨N, 4, none⟩ _ Q (by simp; omega)), h4.setCell (p := ⟨N, 4, none⟩) (by simp; omega) _, hNw.1⟩
  try rw [hV4]
  have r4 : V4.rangeAt N 0 A3 := by rw [← hA3]; exact H4.out.1.range
  obtain ⟨R', hR1', hR2', hD'⟩ := c2.out V4 H4.out.2.1
  have HD' : Hid (Calls Try.prog 19 #[.pointer (some ⟨c, 0, none⟩), .agg A3.toArray, .agg A1.toArray] V4 fun e w' => e = .returned (.tuple #[.agg R'.toArray, .agg #[.int .i64 1, .int .i64 4, .int .u8 9]]) ∧ Below V4.heap.size V4 w') := hD'
  have iR' : (Try.prog.info? 22).map (·.size) = some R'.length := by rw [hR1']; kernel_rfl
  clear hD' hV4 H3 c2 cN fN
  go_upto_region 8 with (first | refine wpList_load_mid rfl 24 _ rfl N 0 rfl A3 _ r4 Try.underlying24 rfl j36 ?_ | (go_at_call 19; refine (HD'.out).mono ?_; rintro e V5 ⟨rfl, hB5⟩) | refine wpList_store_mid rfl 22 _ _ rfl _ 0 R'.toArray rfl rfl (pair_t1 hA2 hR1' _ _ _) iR' hR2' ?_ | refine wpList_store_mid rfl 40 _ _ rfl _ 0 #[.int .i64 1, .int .i64 4, .int .u8 9] rfl rfl (pair_t2 _ _ _ _ _) infoVd (by simp [Value.oneCell']) ?_)
  obtain ⟨V6, hV6⟩ : ∃ V, (((V5.alloc (.cells A2.toArray 22)).alloc (.cells #[.int .i64 0, .int .i64 0, .int .u8 0] 40)).setCells V5.heap.size 0 R').setCells (V5.heap.size + 1) 0 [.int .i64 1, .int .i64 4, .int .u8 9] = V := ⟨_, rfl⟩
  obtain ⟨v6, b6, s6⟩ := pair_laid V5 _ _ R' _ _ _ V6 hV6
  obtain ⟨U, hU⟩ : ∃ U, V5.heap.size + 1 = U := ⟨_, rfl⟩
  have bb6 : Below V4.heap.size V4 V6 := hB5.trans (b6.mono hB5.size)
  rw [hU] at v6
  have k3 := H4.out.2.2.1.next bb6
  have HE : Hid (CdAt V6 c b ∧ Below w.heap.size w V6) := ⟨H4.out.2.1.next bb6, H4.out.2.2.2.1.trans (bb6.mono H4.out.2.2.2.1.size)⟩
  simp only [Act.put]
  rw [hV6, hU]
  have x0 := k3.c0; have x1 := k3.c1; have x2 := k3.c2
  have y0 := v6.c0; have y1 := v6.c1; have y2 := v6.c2
  clear hV6 v6 b6 bb6 hB5 H4 r4 HD' hU s6 k3
  go_wp2
  go_ret
  exact ⟨c, b, rfl, HE.out.1, HE.out.2, by omega, by omega⟩
end Go.Proofs.Ytmkjdpokcfeieaa
