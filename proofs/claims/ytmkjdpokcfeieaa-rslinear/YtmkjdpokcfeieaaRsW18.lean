/-
  A word's verdict alone.
-/
import Derived.Test.YtmkjdpokcfeieaaRsW16
namespace Go.Proofs.Ytmkjdpokcfeieaa
open Go.RowKit Go.Shelf
open Gf (gI eI dI lI)
open Po (El mu pwr ev S cf toE cv Low rts)
open Rm (al sy At IsCode)
attribute [local go_sem] Oper.semAt_some

set_option maxRecDepth 100000 in
set_option maxHeartbeats 2000000 in
theorem verdict_any (c b : Nat) (F G : Nat → El) (w : World) (hc : CdAt w c b) :
    Calls Try.prog 23 #[.pointer (some ⟨c, 0, none⟩), .agg (arr 36 F).toArray, .agg (arr 3 G).toArray] w fun e w' => e = .returned (.agg (vd (sy (wd F G)))) ∧ Below w.heap.size w w' := by
  have hz := zeroVd
  have hz32 := zero32
  have cD : Hid (∀ W, CdAt W c b → ∃ R : List Value, R.length = 32 ∧ R.toArray.all (·.oneCell') = true ∧ Calls Try.prog 19 #[.pointer (some ⟨c, 0, none⟩), .agg (arr 36 F).toArray, .agg (arr 3 G).toArray] W fun e w' => e = .returned (.tuple #[.agg R.toArray, .agg (vd (sy (wd F G)))]) ∧ Below W.heap.size W w') := fun W h => decode_told c b F G W h _ rfl
  unfold vd at cD ⊢
  obtain ⟨K, hK⟩ : ∃ K, vk (sy (wd F G)) = K := ⟨_, rfl⟩
  obtain ⟨P, hP⟩ : ∃ P, vp (sy (wd F G)) = P := ⟨_, rfl⟩
  obtain ⟨U, hU⟩ : ∃ U, vv (sy (wd F G)) = U := ⟨_, rfl⟩
  rw [hK, hP, hU] at cD ⊢
  obtain ⟨A0, hA0⟩ : ∃ A, arr 36 F = A := ⟨_, rfl⟩
  obtain ⟨A1, hA1⟩ : ∃ A, arr 3 G = A := ⟨_, rfl⟩
  obtain ⟨A2, hA2⟩ : ∃ A, (arr 32 fun _ => 0) = A := ⟨_, rfl⟩
  have i36 : (Try.prog.info? 24).map (·.size) = some A0.length := by rw [← hA0, arr_len]; kernel_rfl
  have i3 : (Try.prog.info? 23).map (·.size) = some A1.length := by rw [← hA1, arr_len]; kernel_rfl
  rw [hA2] at hz32
  rw [hA0, hA1] at cD ⊢
  go_enter Try.func23, Try.ntmps23
  go_upto_region 1 with (fail)
  obtain ⟨B, hB⟩ : ∃ B, w.heap.size = B := ⟨_, rfl⟩
  obtain ⟨V0, hV0⟩ : ∃ V, ((w.alloc (.cells A0.toArray 24)).alloc (.cells A1.toArray 23)).alloc (.cells #[.int .i64 0, .int .i64 0, .int .u8 0] 40) = V := ⟨_, rfl⟩
  have H0 : Hid (Blk V0 B 36 F ∧ Blk V0 (B + 1) 3 G ∧ VdAt V0 (B + 1 + 1) (.int .i64 0) (.int .i64 0) (.int .u8 0) ∧ CdAt V0 c b ∧ Below B w V0) := by
    have hb : Below B w V0 := by rw [← hV0, ← hB]; exact (((Below.refl _ w).alloc (Nat.le_refl _) _).alloc (by simp) _).alloc (by simp; omega) _
    have h0 := Blk.new w 36 F 24
    have h1 := Blk.new (w.alloc (.cells A0.toArray 24)) 3 G 23
    have h2 := VdAt.new ((w.alloc (.cells A0.toArray 24)).alloc (.cells A1.toArray 23)) (.int .i64 0) (.int .i64 0) (.int .u8 0) 40
    simp only [World.size_alloc] at h1 h2
    rw [hA0] at h0
    rw [hA1] at h1
    rw [← hB]
    refine ⟨?_, ?_, ?_, hc.next (by rw [hB]; exact hb), by rw [hB]; exact hb⟩ <;> rw [← hV0]
    · exact (h0.alloc _).alloc _
    · exact h1.alloc _
    · exact h2
  have r0 : V0.rangeAt B 0 A0 := by rw [← hA0]; exact H0.out.1.range
  have r1 : V0.rangeAt (B + 1) 0 A1 := by rw [← hA1]; exact H0.out.2.1.range
  rw [hV0, hB]
  obtain ⟨R, hR1, hR2, hD⟩ := cD.out V0 H0.out.2.2.2.1
  have HD : Hid (Calls Try.prog 19 #[.pointer (some ⟨c, 0, none⟩), .agg A0.toArray, .agg A1.toArray] V0 fun e w' => e = .returned (.tuple #[.agg R.toArray, .agg #[.int .i64 K, .int .i64 P, .int .u8 (oe U)]]) ∧ Below V0.heap.size V0 w') := hD
  have iR : (Try.prog.info? 22).map (·.size) = some R.length := by rw [hR1]; kernel_rfl
  clear hD cD hV0 hc
  go_upto_region 2 with (first | refine wpList_load_mid rfl 24 _ rfl B 0 rfl A0 _ r0 Try.underlying24 rfl i36 ?_ | refine wpList_load_mid rfl 23 _ rfl (B + 1) 0 rfl A1 _ r1 Try.underlying23 rfl i3 ?_ | (go_at_call 19; refine (HD.out).mono ?_; rintro e V2 ⟨rfl, hB2⟩) | refine wpList_store_mid rfl 22 _ _ rfl _ 0 R.toArray rfl rfl (pair_t1 hA2 hR1 _ _ _) iR hR2 ?_ | refine wpList_store_mid rfl 40 _ _ rfl _ 0 #[.int .i64 K, .int .i64 P, .int .u8 (oe U)] rfl rfl (pair_t2 _ _ _ _ _) infoVd (by simp [Value.oneCell']) ?_)
  obtain ⟨V3, hV3⟩ : ∃ V, (((V2.alloc (.cells A2.toArray 22)).alloc (.cells #[.int .i64 0, .int .i64 0, .int .u8 0] 40)).setCells V2.heap.size 0 R).setCells (V2.heap.size + 1) 0 [.int .i64 K, .int .i64 P, .int .u8 (oe U)] = V := ⟨_, rfl⟩
  obtain ⟨v3, b3, s3⟩ := pair_laid V2 _ _ R _ _ _ V3 hV3
  obtain ⟨Q, hQ⟩ : ∃ Q, V2.heap.size + 1 = Q := ⟨_, rfl⟩
  have bb3 : Below V0.heap.size V0 V3 := hB2.trans (b3.mono hB2.size)
  rw [hQ] at v3
  have vr := H0.out.2.2.1.next bb3
  have HE : Hid (Below B w V3) := H0.out.2.2.2.2.trans (bb3.mono (Nat.le_of_lt H0.out.1.lt))
  have x0 := v3.c0; have x1 := v3.c1; have x2 := v3.c2
  have HT : Hid (V3.there (B + 1 + 1) 0 3) := vr.there
  have t0 := vr.c0; have t1 := vr.c1; have t2 := vr.c2
  have f0 := vr.f 0; have f1 := vr.f 1; have f2 := vr.f 2
  simp only [Act.put]
  rw [hV3, hQ]
  clear hV3 hQ v3 b3 s3 bb3 vr hB2 HD H0 r0 r1
  go_wp2
  have hld := three_vd HT.out (.int .i64 K) (.int .i64 P) (.int .u8 (oe U))
  refine bodyPost_ret (v := .agg #[.int .i64 K, .int .i64 P, .int .u8 (oe U)]) ?_ rfl ⟨rfl, by rw [hB]; exact three_below HE.out (by omega) _ _ _⟩
  simp [results, Try.f23, asAddr, hld]
end Go.Proofs.Ytmkjdpokcfeieaa
