/-
  Lines of halves.
-/
import Derived.Test.YtdjknaafefnlcaaDoorLnW8
namespace Go.Proofs.YtdjknaafefnlcaaDoor
open Go.RowKit Go.Shelf
attribute [local go_sem] Oper.semAt_some

theorem infoHH : (Tryd.prog.info? 87).map (·.size) = some 64 := by kernel_rfl
theorem ints_cut (k : IntKind) (n o m : Nat) (F : Nat → Int) (h : o + m ≤ n) : List.take m (List.drop o (ints k n F)) = ints k m fun i => F (o + i) := by
  refine List.ext_getElem? fun i => ?_
  rw [List.getElem?_take]
  by_cases hi : i < m
  · rw [if_pos hi, List.getElem?_drop, ints_at k n F (o + i) (by omega), ints_at k m _ i hi]
  · rw [if_neg hi, List.getElem?_eq_none (by rw [ints_len]; omega)]
theorem run_indexHH (F : Nat → Int) (x : Nat) (hx : x < 2) (w : World) : (Instr.index 87 (.agg (ints .u8 64 F).toArray) (.int .i64 (x : Int))).run Tryd.prog w = .ok (.agg (ints .u8 32 (hlf F x)).toArray) w := by
  have hu := Tryd.underlying87
  have hs : (sizeOf 72).run Tryd.prog w = .ok 32 w := by kernel_rfl
  simp [Instr.index, run_underlying hu, asIntOf, go_sem, hx, hs]
  rw [Nat.mul_comm x 32]
  exact ints_cut .u8 64 (32 * x) 32 F (by omega)

set_option maxRecDepth 100000 in
set_option maxHeartbeats 1000000 in
theorem fromHalves_any (F : Nat → Int) (w : World) :
    Calls Tryd.prog 47 #[.agg (ints .u8 64 F).toArray] w fun e w' => e = .returned (.agg (ints .u8 64 F).toArray) ∧ Below w.heap.size w w' := by
  have hz := zeroL
  have hzh := zeroH
  have hix := run_indexHH F
  have iw : (Tryd.prog.info? 87).map (·.size) = some (ints .u8 64 F).length := by rw [ints_len]; exact infoHH
  have i9 : (Tryd.prog.info? 23).map (·.size) = some (ints .u8 64 F).length := by rw [ints_len]; exact infoL
  have hone := ints_one .u8 64 F
  obtain ⟨A0, hA0⟩ : ∃ A, ints .u8 64 F = A := ⟨_, rfl⟩
  obtain ⟨Z, hZ⟩ : ∃ A, (ints .u8 64 fun _ => 0).toArray = A := ⟨_, rfl⟩
  obtain ⟨ZH, hZH⟩ : ∃ A, (ints .u8 32 fun _ => 0).toArray = A := ⟨_, rfl⟩
  rw [hZ] at hz
  rw [hZH] at hzh
  rw [hA0] at hix iw i9 hone ⊢
  go_enter Tryd.func47, Tryd.ntmps47
  go_upto_region 2 with (fail)
  obtain ⟨V, hV⟩ : ∃ V, ((w.alloc (.cells A0.toArray 87)).alloc (.cells Z 23)).alloc (.cells Z 23) = V := ⟨_, rfl⟩
  have HI : Hid (Bk .u8 V w.heap.size 64 F ∧ Wk w.heap.size (w.heap.size + 1) (w.heap.size + 1 + 1) (fun _ => 0) w V) := by
    rw [← hV, ← hA0, ← hZ]
    have h0 := Bk.new .u8 w 64 F 87
    have h1 := Bk.new .u8 (w.alloc (.cells (ints .u8 64 F).toArray 87)) 64 (fun _ => 0) 23
    have h2 := Bk.new .u8 ((w.alloc (.cells (ints .u8 64 F).toArray 87)).alloc (.cells (ints .u8 64 fun _ => 0).toArray 23)) 64 (fun _ => 0) 23
    simp only [World.size_alloc] at h1 h2
    exact ⟨(h0.alloc _).alloc _, h1.alloc _, h2, (((Below.refl _ w).alloc (Nat.le_refl _) _).alloc (by simp) _).alloc (by simp; omega) _⟩
  obtain ⟨B, hB⟩ : ∃ B, w.heap.size = B := ⟨_, rfl⟩
  obtain ⟨D, hD⟩ : ∃ D, B + 1 = D := ⟨_, rfl⟩
  obtain ⟨E, hE⟩ : ∃ E, D + 1 = E := ⟨_, rfl⟩
  rw [hV]
  rw [hB, hD, hE] at HI ⊢
  have nD : D ≠ E := by omega
  have nB : B ≤ E := by omega
  have lD : B ≤ D := by omega
  have hr := HI.out.1.range
  rw [hA0] at hr
  have HW : Hid (Wk B D E (fun _ => 0) w V) := HI.out.2
  have HL : Hid (ints .u8 64 F = A0) := hA0
  have HZH : Hid ((ints .u8 32 fun _ => 0).toArray = ZH) := hZH
  clear hV hA0 hZ hz hD hE HI hZH
  go_wp2_with (refine wpList_load_mid rfl 87 _ rfl B 0 rfl A0 _ hr Tryd.underlying87 rfl iw ?_)
  clear hr
  go_loopw [7] (fun i wr => ∃ k : Nat, k ≤ 2 ∧ i = .int .i64 (k : Int) ∧ Hid (Wk B D E (fun j => if j < 32 * k then F j else 0) w wr)) (fun i _ => 2 - (intOf i).toNat)
  case atStart => exact ⟨0, by omega, rfl, HW.out.congr fun i _ => by rw [if_neg (by omega)]⟩
  case round =>
    obtain ⟨x, hk, rfl, HK⟩ := hrel
    by_cases hlt : x < 2
    · have hik := hix x hlt
      have iH : (Tryd.prog.info? 72).map (·.size) = some (ints .u8 32 (hlf F x)).length := by rw [ints_len]; exact infoH
      have oH := ints_one .u8 32 (hlf F x)
      have hb := Bk.new .u8 wr 32 (fun _ => 0) 72
      rw [HZH.out] at hb
      have ht := hb.there .u8 (hlf F x)
      have hp := hb.put (hlf F x)
      obtain ⟨L, hL⟩ : ∃ A, ints .u8 32 (hlf F x) = A := ⟨_, rfl⟩
      rw [hL] at hik iH oH ht hp
      have HN : Hid (Bk .u8 ((wr.alloc (.cells ZH 72)).setCells wr.heap.size 0 L) wr.heap.size 32 (hlf F x) ∧ Wk B D E (fun j => if j < 32 * x then F j else 0) w ((wr.alloc (.cells ZH 72)).setCells wr.heap.size 0 L)) := by
        have l1 := HK.out.o.lt
        have l2 := HK.out.r.lt
        exact ⟨hp, (HK.out.r.alloc _).putOther (by omega) _ _, (HK.out.o.alloc _).putOther (by omega) _ _, belows_put (by omega) _ _ (HK.out.below.alloc (by omega) _)⟩
      have hEl := HK.out.o.lt
      clear HW hix hb hp hL HK
      go_upto_region 5 with (refine wpList_store_mid rfl 72 _ _ rfl _ 0 L.toArray rfl rfl ht iH oH ?_)
      obtain ⟨V3, hV3⟩ : ∃ V, (wr.alloc (.cells ZH 72)).setCells wr.heap.size 0 L = V := ⟨_, rfl⟩
      obtain ⟨C, hC⟩ : ∃ b, wr.heap.size = b := ⟨_, rfl⟩
      rw [hV3, hC] at HN
      rw [hC] at hEl
      rw [hV3, hC]
      clear hV3 hC ht
      have h1 := cut_half
      have h2 := cut_line E x hlt
      have wm : IntKind.i64.wrap (32 * (x : Int)) = 32 * (x : Int) := by rw [IntKind.wrap_i64]; omega
      refine region_ends (by kernel_rfl) (fun _ => True) (fun a' w' => a' = ({ tmps := #[.agg A0.toArray, .pointer (some ⟨B, 0, none⟩), .pointer (some ⟨D, 0, none⟩), .pointer (some ⟨E, 0, none⟩), .int .i64 (x : Int), .pointer (some ⟨C, 0, none⟩), .agg A0.toArray, .int .i64 (x : Int), .bool (decide ((x : Int) < 2)), .int .i64 (x : Int), .agg L.toArray, .int .i64 (x : Int), .int .i64 (32 * (x : Int)), .slice (some ⟨E, 32 * x, none⟩) (64 - 32 * x) (64 - 32 * x), .slice (some ⟨C, 0, none⟩) 32 32, goInt 32, u16, undef], defers := [] } : Act) ∧ Wk B D E (fun j => if j < 32 * (x + 1) then F j else 0) w w') trivial (fun hH => ?_) ?_
      · skip
        refine take_pure 0 (v := .int .i64 (x : Int)) rfl (by kernel_rfl) rfl (fun w' hw => by simp [execOp, go_sem]) hH ?_
        show wpAnyH _ _ _ _ _ _ _ ({ tmps := #[.agg A0.toArray, .pointer (some ⟨B, 0, none⟩), .pointer (some ⟨D, 0, none⟩), .pointer (some ⟨E, 0, none⟩), .int .i64 (x : Int), .pointer (some ⟨C, 0, none⟩), .agg A0.toArray, .int .i64 (x : Int), .bool (decide ((x : Int) < 2)), .int .i64 (x : Int), .agg L.toArray, .int .i64 (x : Int), u12, u13, u14, u15, u16, undef], defers := [] } : Act) _
        refine take_pure 1 (v := .int .i64 (32 * (x : Int))) rfl (by kernel_rfl) rfl (fun w' hw => by simp [execOp, go_sem, wm]) hH ?_
        show wpAnyH _ _ _ _ _ _ _ ({ tmps := #[.agg A0.toArray, .pointer (some ⟨B, 0, none⟩), .pointer (some ⟨D, 0, none⟩), .pointer (some ⟨E, 0, none⟩), .int .i64 (x : Int), .pointer (some ⟨C, 0, none⟩), .agg A0.toArray, .int .i64 (x : Int), .bool (decide ((x : Int) < 2)), .int .i64 (x : Int), .agg L.toArray, .int .i64 (x : Int), .int .i64 (32 * (x : Int)), u13, u14, u15, u16, undef], defers := [] } : Act) _
        refine take_pure 2 (v := .slice (some ⟨E, 32 * x, none⟩) (64 - 32 * x) (64 - 32 * x)) rfl (by kernel_rfl) rfl (fun w' hw => exec_slice1 _ _ _ rfl _ _ _ rfl rfl h2 w') hH ?_
        show wpAnyH _ _ _ _ _ _ _ ({ tmps := #[.agg A0.toArray, .pointer (some ⟨B, 0, none⟩), .pointer (some ⟨D, 0, none⟩), .pointer (some ⟨E, 0, none⟩), .int .i64 (x : Int), .pointer (some ⟨C, 0, none⟩), .agg A0.toArray, .int .i64 (x : Int), .bool (decide ((x : Int) < 2)), .int .i64 (x : Int), .agg L.toArray, .int .i64 (x : Int), .int .i64 (32 * (x : Int)), .slice (some ⟨E, 32 * x, none⟩) (64 - 32 * x) (64 - 32 * x), u14, u15, u16, undef], defers := [] } : Act) _
        refine take_pure 3 (v := .slice (some ⟨C, 0, none⟩) 32 32) rfl (by kernel_rfl) rfl (fun w' hw => exec_slice0 _ _ rfl _ _ rfl (h1 C) w') hH ?_
        show wpAnyH _ _ _ _ _ _ _ ({ tmps := #[.agg A0.toArray, .pointer (some ⟨B, 0, none⟩), .pointer (some ⟨D, 0, none⟩), .pointer (some ⟨E, 0, none⟩), .int .i64 (x : Int), .pointer (some ⟨C, 0, none⟩), .agg A0.toArray, .int .i64 (x : Int), .bool (decide ((x : Int) < 2)), .int .i64 (x : Int), .agg L.toArray, .int .i64 (x : Int), .int .i64 (32 * (x : Int)), .slice (some ⟨E, 32 * x, none⟩) (64 - 32 * x) (64 - 32 * x), .slice (some ⟨C, 0, none⟩) 32 32, u15, u16, undef], defers := [] } : Act) _
        refine take_one 4 rfl rfl (by kernel_rfl) ?_
        refine wp_cpy _ _ rfl E (32 * x) (64 - 32 * x) (64 - 32 * x) C 0 32 32 64 32 (fun j => if j < 32 * x then F j else 0) (hlf F x) rfl rfl HN.out.2.o.drew (by show 32 = min 32 (64 - 32 * x); omega) (fun j hj => by rw [Nat.zero_add]; exact HN.out.1.drew.cell j hj) (by omega) ?_
        intro V4 g4 k4
        have hN : Wk B D E (fun j => if j < 32 * (x + 1) then F j else 0) w V4 := ⟨HN.out.2.r.drew.of (k4.out.block D nD), g4.out.congr fun i hi => by
          show (if 32 * x ≤ i ∧ i < 32 * x + 32 then F (32 * x + (i - 32 * x)) else if i < 32 * x then F i else 0) = if i < 32 * (x + 1) then F i else 0
          by_cases h1 : i < 32 * x
          · rw [if_neg (by omega), if_pos h1, if_pos (by omega)]
          · by_cases h2 : i < 32 * (x + 1)
            · rw [if_pos (by omega), if_pos h2, show 32 * x + (i - 32 * x) = i from by omega]
            · rw [if_neg (by omega), if_neg h1, if_neg h2], k4.out.below _ _ (below_drewN HN.out.2.below 1) nB⟩
        refine ⟨trivial, fun hH2 => ?_⟩
        show wpAnyH _ _ _ _ _ _ _ ({ tmps := #[.agg A0.toArray, .pointer (some ⟨B, 0, none⟩), .pointer (some ⟨D, 0, none⟩), .pointer (some ⟨E, 0, none⟩), .int .i64 (x : Int), .pointer (some ⟨C, 0, none⟩), .agg A0.toArray, .int .i64 (x : Int), .bool (decide ((x : Int) < 2)), .int .i64 (x : Int), .agg L.toArray, .int .i64 (x : Int), .int .i64 (32 * (x : Int)), .slice (some ⟨E, 32 * x, none⟩) (64 - 32 * x) (64 - 32 * x), .slice (some ⟨C, 0, none⟩) 32 32, goInt 32, u16, undef], defers := [] } : Act) _
        exact wpAnyH_done (by kernel_rfl) ⟨rfl, hN⟩ _
      rintro a' V4 ⟨rfl, hN⟩
      have HN4 : Hid (Wk B D E (fun j => if j < 32 * (x + 1) then F j else 0) w V4) := hN
      clear hN HN h1 h2 wm hik
      go_wp2
      go_roundw
      case rel => exact ⟨x + 1, by omega, by go_num, HN4⟩
      case measure => simp [intOf]; omega
    · obtain rfl : x = 2 := by omega
      have HE : Wk B D E F w wr := HK.out.congr fun i hi => by rw [if_pos (by omega)]
      have hr := HE.o.range
      have ht := HE.r.there .u8 F
      rw [HL.out] at hr ht
      have HB : Hid (Below B w wr) := HE.below
      clear HK HE HW hix
      go_wp2_with (first | refine wpList_load_mid rfl 23 _ rfl _ 0 rfl A0 _ hr Tryd.underlying23 rfl i9 ?_ | refine wpList_store_mid rfl 23 _ _ rfl _ 0 A0.toArray rfl rfl ht i9 hone ?_)
      have hs : (wr.setCells D 0 A0).rangeAt D 0 A0 := World.rangeAt_setCells_same wr _ 0 A0 (by simpa using ht)
      have hld := run_loadVar_mid (P := Tryd.prog) (wr.setCells D 0 A0) D 0 23 A0 _ hs Tryd.underlying23 rfl i9
      refine bodyPost_ret (v := .agg A0.toArray) ?_ rfl ⟨rfl, by rw [hB]; exact belows_put lD A0 0 HB.out⟩
      simp [results, Tryd.f47, Act.put, asAddr, hld]
end Go.Proofs.YtdjknaafefnlcaaDoor
