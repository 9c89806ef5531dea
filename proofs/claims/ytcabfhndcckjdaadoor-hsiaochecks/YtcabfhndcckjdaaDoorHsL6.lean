/-
  The law HsiaoChecks.
-/
import Derived.Test.YtcabfhndcckjdaaDoorHsL1
import Derived.Deep.DeepCutAuto
namespace Go.Proofs.YtcabfhndcckjdaaDoor
open Go.RowKit Go.Shelf
open Bm (wt wtK cntW)
open Hm (col onesOf nOf idx kd pl xs ap syn)
attribute [local go_sem] Oper.semAt_some

theorem fx_ways (d s : Nat) : (kd s = 1 ∧ ∃ i : Nat, i < 64 ∧ pl s = (i : Int) ∧ fx d s = d ^^^ 2 ^ i) ∨ (kd s = 1 ∧ 64 ≤ pl s ∧ pl s < 72 ∧ fx d s = d) ∨ (kd s ≠ 1 ∧ fx d s = d) := by
  have ht := told s
  unfold fx
  by_cases h1 : kd s = 1
  · by_cases h2 : pl s < 64
    · obtain ⟨i, hi⟩ := Int.eq_ofNat_of_zero_le (show 0 ≤ pl s by omega)
      exact .inl ⟨h1, i, by omega, hi, by rw [if_pos ⟨h1, h2⟩, hi]; rfl⟩
    · exact .inr (.inl ⟨h1, by omega, by omega, by rw [if_neg (by omega)]⟩)
  · exact .inr (.inr ⟨h1, by rw [if_neg (by omega)]⟩)
theorem code_of_range {W : World} {b : Nat} (h : W.rangeAt b 0 colsL) : CodeAt W b := fun i hi => by
  have := h i _ (colsL_at i hi)
  rw [Nat.zero_add] at this; exact this
/-- a new array's cells may be written -/
theorem there_new (W : World) : (W.alloc (.cells (stageC 0) 32)).there W.heap.size 0 colsL.toArray.size := fun j hj => by
  have hj' : j < 74 := by simpa [colsL_len] using hj
  obtain ⟨v, hv⟩ := stageC_cell 0 j hj'
  rw [Nat.zero_add, World.cell?_alloc_new, hv]
  exact ⟨rfl, by simp⟩

set_option maxRecDepth 100000 in
set_option maxHeartbeats 4000000 in
theorem hsiaoChecks_walk (d k a p : Int) (w0 : (Lit.int .u64 d).wf = true) (w1 : (Lit.int .u8 k).wf = true) (_w2 : (Lit.int .i64 a).wf = true) (_w3 : (Lit.int .i64 p).wf = true) (w : World) (hT : TabW w) :
    Calls Tryd.prog 4 #[.int .u64 d, .int .u8 k, .int .i64 a, .int .i64 p] w fun e w' => e = .returned (.bool true) ∧ Below w.heap.size w w' := by
  have rd := bounds_u64 w0
  have rk := bounds_u8 w1
  obtain ⟨v, rfl⟩ := Int.eq_ofNat_of_zero_le rd.1
  obtain ⟨q, rfl⟩ := Int.eq_ofNat_of_zero_le rk.1
  have hv : v < 18446744073709551616 := by omega
  have hq : q < 256 := by omega
  clear w0 w1 rd rk _w2 _w3
  have HT : Hid (TabW w) := hT
  clear hT
  have hz := zero_cols
  have hs := Hm.syn_lt v q a p hq
  have ht := Hm.syn_lt v q a 0 hq
  have hc := Hm.syn_lt v 0 a p (by decide)
  have e0 := Hm.syn_code v a p
  have cS : Hid (∀ b w, CodeAt w b → TabW w → Calls Tryd.prog 17 #[.pointer (some ⟨b, 0, none⟩), .int .u64 (v : Int), .int .u8 (q : Int), .int .i64 a, .int .i64 p] w fun e w' => e = .returned (.int .u8 (syn v q a p : Int)) ∧ Below w.heap.size w w') := fun b w h1 h2 => syndrome_any b v q a p hv hq w h1 h2
  have rS : Hid (∀ w, Calls Tryd.prog 21 #[.agg colsL.toArray, .int .u64 (v : Int), .int .u8 (q : Int), .int .i64 a, .int .i64 p] w fun e w' => e = .returned (.int .u8 (syn v q a p : Int)) ∧ Below w.heap.size w w') := fun w => refSyndrome_any v q a p hv hq w
  have rT : Hid (∀ w, Calls Tryd.prog 21 #[.agg colsL.toArray, .int .u64 (v : Int), .int .u8 (q : Int), .int .i64 a, .int .i64 0] w fun e w' => e = .returned (.int .u8 (syn v q a 0 : Int)) ∧ Below w.heap.size w w') := fun w => refSyndrome_any v q a 0 hv hq w
  have cD : Hid (∀ b w, CodeAt w b → TabW w → Calls Tryd.prog 20 #[.pointer (some ⟨b, 0, none⟩), .int .u64 (v : Int), .int .u8 (q : Int), .int .i64 a] w fun e w' => e = .returned (.tuple #[.int .u64 (fx v (syn v q a 0) : Int), .int .i64 (kd (syn v q a 0)), .int .i64 (pl (syn v q a 0))]) ∧ Below w.heap.size w w') := fun b w h1 h2 => decode_any b v q a hv hq w h1 h2
  have cC : Hid (∀ b w, CodeAt w b → TabW w → Calls Tryd.prog 23 #[.pointer (some ⟨b, 0, none⟩), .int .u64 (v : Int), .int .i64 a, .int .i64 p] w fun e w' => e = .returned (.int .u8 (syn v 0 a p : Int)) ∧ Below w.heap.size w w') := fun b w h1 h2 => check_any b v a p hv w h1 h2
  obtain ⟨s, hS⟩ : ∃ s, syn v q a p = s := ⟨_, rfl⟩
  obtain ⟨t, hTt⟩ : ∃ t, syn v q a 0 = t := ⟨_, rfl⟩
  obtain ⟨c, hCc⟩ : ∃ c, syn v 0 a p = c := ⟨_, rfl⟩
  rw [hS] at hs cS rS
  rw [hTt] at ht rT cD
  rw [hCc] at hc e0 cC
  have cZ : Hid (∀ b w, CodeAt w b → TabW w → Calls Tryd.prog 17 #[.pointer (some ⟨b, 0, none⟩), .int .u64 (v : Int), .int .u8 (c : Int), .int .i64 a, .int .i64 p] w fun e w' => e = .returned (.int .u8 0) ∧ Below w.heap.size w w') := fun b w h1 h2 => by
    have := syndrome_any b v c a p hv hc w h1 h2
    rw [e0] at this; exact this
  have cK : Hid (∀ b w, CodeAt w b → Calls Tryd.prog 18 #[.pointer (some ⟨b, 0, none⟩), .int .u8 (s : Int)] w fun e w' => e = .returned (.tuple #[.int .i64 (kd s), .int .i64 (pl s)]) ∧ w' = w) := fun b w h => classify_any b s hs w h
  have rK : Hid (∀ w, Calls Tryd.prog 19 #[.agg colsL.toArray, .int .u8 (s : Int)] w fun e w' => e = .returned (.tuple #[.int .i64 (kd s), .int .i64 (pl s)]) ∧ Below w.heap.size w w') := fun w => refClassify_any s hs w
  have rL : Hid (∀ w, Calls Tryd.prog 19 #[.agg colsL.toArray, .int .u8 (t : Int)] w fun e w' => e = .returned (.tuple #[.int .i64 (kd t), .int .i64 (pl t)]) ∧ Below w.heap.size w w') := fun w => refClassify_any t ht w
  have hw := fx_ways v t
  obtain ⟨ks, h1⟩ : ∃ x, kd s = x := ⟨_, rfl⟩
  obtain ⟨ps, h2⟩ : ∃ x, pl s = x := ⟨_, rfl⟩
  obtain ⟨kt, h3⟩ : ∃ x, kd t = x := ⟨_, rfl⟩
  obtain ⟨pt, h4⟩ : ∃ x, pl t = x := ⟨_, rfl⟩
  obtain ⟨y, h5⟩ : ∃ x, fx v t = x := ⟨_, rfl⟩
  rw [h1, h2] at cK rK
  rw [h3, h4] at rL
  rw [h3, h4, h5] at cD hw
  have HW : Hid _ := hw
  clear h1 h2 h3 h4 h5 hw hS hTt hCc e0
  go_enter Tryd.func4, Tryd.ntmps4
  go_wp2_with fail
  refine (new_any _).mono ?_
  rintro e V1 ⟨rfl, hC, hB⟩
  have S1 := St.first HT.out hC hB
  clear hC hB HT
  go_wp2_with fail
  refine (anchor4_any _ _ S1.code S1.tab).mono ?_
  rintro e V2 ⟨rfl, hB⟩
  replace S1 := S1.next hB
  clear hB
  go_wp2_with fail
  refine (refColumns_any _).mono ?_
  rintro e V3 ⟨rfl, hB⟩
  replace S1 := S1.next hB
  clear hB
  have tn := there_new V3
  simp only []
  go_upto_region 5 with (refine wpList_store_mid rfl 32 _ _ rfl _ 0 colsL.toArray rfl rfl tn info_cols colsL_one ?_)
  obtain ⟨V4, hV4⟩ : ∃ V4, (V3.alloc (.cells (stageC 0) 32)).setCells V3.heap.size 0 colsL = V4 := ⟨_, rfl⟩
  have hB : Below V3.heap.size V3 V4 := by rw [← hV4]; exact below_put (Nat.le_refl _) colsL 0 ((Below.refl _ V3).alloc (Nat.le_refl _) _)
  have Q1 : CodeAt V4 V3.heap.size := by rw [← hV4]; exact code_of_range (World.rangeAt_setCells_same _ _ 0 colsL (by simpa using tn))
  obtain ⟨G, hG⟩ : ∃ G, V3.heap.size = G := ⟨_, rfl⟩
  replace S1 := S1.next hB
  rw [hG] at Q1 hV4 ⊢
  rw [hV4]
  clear hB hV4 tn hz
  go_wp2_with fail
  refine (cS.out _ _ S1.code S1.tab).mono ?_
  rintro e V5 ⟨rfl, hB⟩
  replace S1 := S1.next hB
  replace Q1 := Q1.below hB Q1.lt
  clear hB
  go_wp2_with fail
  refine (cK.out _ _ S1.code).mono ?_
  rintro e V6 ⟨rfl, rfl⟩
  have hr := range_cols Q1
  simp only []
  go_upto_region 8 with (first | (go_at_call 19; refine (rK.out _).mono ?_; rintro e V7 ⟨rfl, hB⟩) | refine wpList_load_mid rfl 32 _ rfl _ 0 rfl colsL _ hr Tryd.underlying32 rfl info_cols ?_)
  replace S1 := S1.next hB
  replace Q1 := Q1.below hB Q1.lt
  clear hB hr
  go_wp2_with fail
  refine (cD.out _ _ S1.code S1.tab).mono ?_
  rintro e V8 ⟨rfl, hB⟩
  replace S1 := S1.next hB
  replace Q1 := Q1.below hB Q1.lt
  clear hB
  have hr := range_cols Q1
  simp only []
  go_upto_region 10 with (first | (go_at_call 21; refine (rT.out _).mono ?_; rintro e V9 ⟨rfl, hB⟩) | refine wpList_load_mid rfl 32 _ rfl _ 0 rfl colsL _ hr Tryd.underlying32 rfl info_cols ?_)
  replace S1 := S1.next hB
  replace Q1 := Q1.below hB Q1.lt
  clear hB hr
  have hr := range_cols Q1
  go_upto_region 11 with (first | (go_at_call 19; refine (rL.out _).mono ?_; rintro e V10 ⟨rfl, hB⟩) | refine wpList_load_mid rfl 32 _ rfl _ 0 rfl colsL _ hr Tryd.underlying32 rfl info_cols ?_)
  replace S1 := S1.next hB
  replace Q1 := Q1.below hB Q1.lt
  clear hB hr
  have hr := range_cols Q1
  rcases HW.out with ⟨rfl, i, hi, rfl, rfl⟩ | ⟨rfl, h1, h2, rfl⟩ | ⟨h1, rfl⟩
  · have T1 : Hid (∀ w, Calls Tryd.prog 22 #[.int .u64 (v : Int), .int .u8 0, .int .i64 0, .int .i64 0, .int .i64 (i : Int)] w fun e w' => e = .returned (.tuple #[.int .u64 ((v ^^^ 2 ^ i : Nat) : Int), .int .u8 0, .int .i64 0, .int .i64 0]) ∧ w' = w) := fun w => turned_data v i 0 0 0 hv hi w
    clear HW cD rL
    go_wp2_with fail
    refine (T1.out _).mono ?_
    rintro e V11 ⟨rfl, rfl⟩
    simp only []
    go_wp2_with (first | (go_at_call 21; refine (rS.out _).mono ?_; rintro e V12 ⟨rfl, hB⟩) | (go_at_call 23; refine (cC.out _ _ (S1.next hB).code (S1.next hB).tab).mono ?_; rintro e V13 ⟨rfl, hB2⟩) | (go_at_call 17; refine (cZ.out _ _ ((S1.next hB).next hB2).code ((S1.next hB).next hB2).tab).mono ?_; rintro e V14 ⟨rfl, hB3⟩) | refine wpList_load_mid rfl 32 _ rfl _ 0 rfl colsL _ hr Tryd.underlying32 rfl info_cols ?_)
    go_ret
    exact ⟨rfl, (((S1.next hB).next hB2).next hB3).below⟩
  · clear HW cD rL
    go_wp2_with (first | (go_at_call 21; refine (rS.out _).mono ?_; rintro e V12 ⟨rfl, hB⟩) | (go_at_call 23; refine (cC.out _ _ (S1.next hB).code (S1.next hB).tab).mono ?_; rintro e V13 ⟨rfl, hB2⟩) | (go_at_call 17; refine (cZ.out _ _ ((S1.next hB).next hB2).code ((S1.next hB).next hB2).tab).mono ?_; rintro e V14 ⟨rfl, hB3⟩) | refine wpList_load_mid rfl 32 _ rfl _ 0 rfl colsL _ hr Tryd.underlying32 rfl info_cols ?_)
    go_ret
    exact ⟨rfl, (((S1.next hB).next hB2).next hB3).below⟩
  · have dk : (kt == 1) = false := by simpa using h1
    clear HW cD rL h1
    go_wp2_with (first | (go_at_call 21; refine (rS.out _).mono ?_; rintro e V12 ⟨rfl, hB⟩) | (go_at_call 23; refine (cC.out _ _ (S1.next hB).code (S1.next hB).tab).mono ?_; rintro e V13 ⟨rfl, hB2⟩) | (go_at_call 17; refine (cZ.out _ _ ((S1.next hB).next hB2).code ((S1.next hB).next hB2).tab).mono ?_; rintro e V14 ⟨rfl, hB3⟩) | refine wpList_load_mid rfl 32 _ rfl _ 0 rfl colsL _ hr Tryd.underlying32 rfl info_cols ?_)
    go_ret
    exact ⟨rfl, (((S1.next hB).next hB2).next hB3).below⟩
end Go.Proofs.YtcabfhndcckjdaaDoor
