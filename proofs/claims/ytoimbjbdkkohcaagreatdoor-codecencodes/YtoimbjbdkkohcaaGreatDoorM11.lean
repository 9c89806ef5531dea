/-
  Texts of one family, one behind another: LnW9, RwW1, BitW6, BitW7, RwW2, RwW5, RwW6, Calm, RwW7.
-/
import Derived.Test.YtoimbjbdkkohcaaGreatDoorM10
import Derived.Test.YtoimbjbdkkohcaaGreatDoorRows
import Derived.Test.YtoimbjbdkkohcaaGreatDoorM03
import Derived.Test.YtoimbjbdkkohcaaGreatDoorM01
import Derived.WalkKit
import Derived.WalkSpells
import Derived.WalkLawsBesides
import Derived.Deep.QuietTactic
import Derived.BigQuiet
import Derived.Test.YtoimbjbdkkohcaaGreatDoorM02
import Derived.Test.YtoimbjbdkkohcaaGreatDoorM05
import Derived.Laws.AppendOwnNone
import Derived.OwnWalk
import Derived.Deep.DeepCutAuto

/-
  Lines of halves.
-/
namespace Go.Proofs.YtoimbjbdkkohcaaGreatDoor
open Go.RowKit Go.Shelf
attribute [local go_sem] Oper.semAt_some

theorem infoHH : (Tryz.prog.info? 95).map (·.size) = some 64 := by kernel_rfl
theorem ints_cut (k : IntKind) (n o m : Nat) (F : Nat → Int) (h : o + m ≤ n) : List.take m (List.drop o (ints k n F)) = ints k m fun i => F (o + i) := by
  refine List.ext_getElem? fun i => ?_
  rw [List.getElem?_take]
  by_cases hi : i < m
  · rw [if_pos hi, List.getElem?_drop, ints_at k n F (o + i) (by omega), ints_at k m _ i hi]
  · rw [if_neg hi, List.getElem?_eq_none (by rw [ints_len]; omega)]
theorem run_indexHH (F : Nat → Int) (x : Nat) (hx : x < 2) (w : World) : (Instr.index 95 (.agg (ints .u8 64 F).toArray) (.int .i64 (x : Int))).run Tryz.prog w = .ok (.agg (ints .u8 32 (hlf F x)).toArray) w := by
  have hu := Tryz.underlying95
  have hs : (sizeOf 58).run Tryz.prog w = .ok 32 w := by kernel_rfl
  simp [Instr.index, run_underlying hu, asIntOf, go_sem, hx, hs]
  rw [Nat.mul_comm x 32]
  exact ints_cut .u8 64 (32 * x) 32 F (by omega)

set_option maxRecDepth 100000 in
set_option maxHeartbeats 1000000 in
theorem fromHalves_any (F : Nat → Int) (w : World) :
    Calls Tryz.prog 50 #[.agg (ints .u8 64 F).toArray] w fun e w' => e = .returned (.agg (ints .u8 64 F).toArray) ∧ Below w.heap.size w w' := by
  have hz := zeroL
  have hzh := zeroH
  have hix := run_indexHH F
  have iw : (Tryz.prog.info? 95).map (·.size) = some (ints .u8 64 F).length := by rw [ints_len]; exact infoHH
  have i9 : (Tryz.prog.info? 23).map (·.size) = some (ints .u8 64 F).length := by rw [ints_len]; exact infoL
  have hone := ints_one .u8 64 F
  obtain ⟨A0, hA0⟩ : ∃ A, ints .u8 64 F = A := ⟨_, rfl⟩
  obtain ⟨Z, hZ⟩ : ∃ A, (ints .u8 64 fun _ => 0).toArray = A := ⟨_, rfl⟩
  obtain ⟨ZH, hZH⟩ : ∃ A, (ints .u8 32 fun _ => 0).toArray = A := ⟨_, rfl⟩
  rw [hZ] at hz
  rw [hZH] at hzh
  rw [hA0] at hix iw i9 hone ⊢
  go_enter Tryz.func50, Tryz.ntmps50
  go_upto_region 2 with (fail)
  obtain ⟨V, hV⟩ : ∃ V, ((w.alloc (.cells A0.toArray 95)).alloc (.cells Z 23)).alloc (.cells Z 23) = V := ⟨_, rfl⟩
  have HI : Hid (Bk .u8 V w.heap.size 64 F ∧ Wk w.heap.size (w.heap.size + 1) (w.heap.size + 1 + 1) (fun _ => 0) w V) := by
    rw [← hV, ← hA0, ← hZ]
    have h0 := Bk.new .u8 w 64 F 95
    have h1 := Bk.new .u8 (w.alloc (.cells (ints .u8 64 F).toArray 95)) 64 (fun _ => 0) 23
    have h2 := Bk.new .u8 ((w.alloc (.cells (ints .u8 64 F).toArray 95)).alloc (.cells (ints .u8 64 fun _ => 0).toArray 23)) 64 (fun _ => 0) 23
    simp only [World.size_alloc] at h1 h2
    exact ⟨(h0.alloc _).alloc _, h1.alloc _, h2, (((Below.refl _ w).alloc (Nat.le_refl _) _).alloc (by simp) _).alloc (by simp; omega) _⟩
  obtain ⟨B, hB⟩ : ∃ B, w.heap.size = B := ⟨_, rfl⟩
  obtain ⟨D, hD⟩ : ∃ D, B + 1 = D := ⟨_, rfl⟩
  obtain ⟨E, hE⟩ : ∃ E, D + 1 = E := ⟨_, rfl⟩
  rw [hV]
  rw [hB, hD, hE] at HI ⊢
  have nD : D ≠ E := by omega
  have nB : B ≤ E := by omega
  have lD : B ≤ D := by omega
  have hr := HI.out.1.range
  rw [hA0] at hr
  have HW : Hid (Wk B D E (fun _ => 0) w V) := HI.out.2
  have HL : Hid (ints .u8 64 F = A0) := hA0
  have HZH : Hid ((ints .u8 32 fun _ => 0).toArray = ZH) := hZH
  clear hV hA0 hZ hz hD hE HI hZH
  go_wp2_with (refine wpList_load_mid rfl 95 _ rfl B 0 rfl A0 _ hr Tryz.underlying95 rfl iw ?_)
  clear hr
  go_loopw [7] (fun i wr => ∃ k : Nat, k ≤ 2 ∧ i = .int .i64 (k : Int) ∧ Hid (Wk B D E (fun j => if j < 32 * k then F j else 0) w wr)) (fun i _ => 2 - (intOf i).toNat)
  case atStart => exact ⟨0, by omega, rfl, HW.out.congr fun i _ => by rw [if_neg (by omega)]⟩
  case round =>
    obtain ⟨x, hk, rfl, HK⟩ := hrel
    by_cases hlt : x < 2
    · have hik := hix x hlt
      have iH : (Tryz.prog.info? 58).map (·.size) = some (ints .u8 32 (hlf F x)).length := by rw [ints_len]; exact infoH
      have oH := ints_one .u8 32 (hlf F x)
      have hb := Bk.new .u8 wr 32 (fun _ => 0) 58
      rw [HZH.out] at hb
      have ht := hb.there .u8 (hlf F x)
      have hp := hb.put (hlf F x)
      obtain ⟨L, hL⟩ : ∃ A, ints .u8 32 (hlf F x) = A := ⟨_, rfl⟩
      rw [hL] at hik iH oH ht hp
      have HN : Hid (Bk .u8 ((wr.alloc (.cells ZH 58)).setCells wr.heap.size 0 L) wr.heap.size 32 (hlf F x) ∧ Wk B D E (fun j => if j < 32 * x then F j else 0) w ((wr.alloc (.cells ZH 58)).setCells wr.heap.size 0 L)) := by
        have l1 := HK.out.o.lt
        have l2 := HK.out.r.lt
        exact ⟨hp, (HK.out.r.alloc _).putOther (by omega) _ _, (HK.out.o.alloc _).putOther (by omega) _ _, belows_put (by omega) _ _ (HK.out.below.alloc (by omega) _)⟩
      have hEl := HK.out.o.lt
      clear HW hix hb hp hL HK
      go_upto_region 5 with (refine wpList_store_mid rfl 58 _ _ rfl _ 0 L.toArray rfl rfl ht iH oH ?_)
      obtain ⟨V3, hV3⟩ : ∃ V, (wr.alloc (.cells ZH 58)).setCells wr.heap.size 0 L = V := ⟨_, rfl⟩
      obtain ⟨C, hC⟩ : ∃ b, wr.heap.size = b := ⟨_, rfl⟩
      rw [hV3, hC] at HN
      rw [hC] at hEl
      rw [hV3, hC]
      clear hV3 hC ht
      have h1 := cut_half
      have h2 := cut_line E x hlt
      have wm : IntKind.i64.wrap (32 * (x : Int)) = 32 * (x : Int) := by rw [IntKind.wrap_i64]; omega
      refine region_ends (by kernel_rfl) (fun _ => True) (fun a' w' => a' = ({ tmps := #[.agg A0.toArray, .pointer (some ⟨B, 0, none⟩), .pointer (some ⟨D, 0, none⟩), .pointer (some ⟨E, 0, none⟩), .int .i64 (x : Int), .pointer (some ⟨C, 0, none⟩), .agg A0.toArray, .int .i64 (x : Int), .bool (decide ((x : Int) < 2)), .int .i64 (x : Int), .agg L.toArray, .int .i64 (x : Int), .int .i64 (32 * (x : Int)), .slice (some ⟨E, 32 * x, none⟩) (64 - 32 * x) (64 - 32 * x), .slice (some ⟨C, 0, none⟩) 32 32, goInt 32, u16, undef], defers := [] } : Act) ∧ Wk B D E (fun j => if j < 32 * (x + 1) then F j else 0) w w') trivial (fun hH => ?_) ?_
      · skip
        refine take_pure 0 (v := .int .i64 (x : Int)) rfl (by kernel_rfl) rfl (fun w' hw => by simp [execOp, go_sem]) hH ?_
        show wpAnyH _ _ _ _ _ _ _ ({ tmps := #[.agg A0.toArray, .pointer (some ⟨B, 0, none⟩), .pointer (some ⟨D, 0, none⟩), .pointer (some ⟨E, 0, none⟩), .int .i64 (x : Int), .pointer (some ⟨C, 0, none⟩), .agg A0.toArray, .int .i64 (x : Int), .bool (decide ((x : Int) < 2)), .int .i64 (x : Int), .agg L.toArray, .int .i64 (x : Int), u12, u13, u14, u15, u16, undef], defers := [] } : Act) _
        refine take_pure 1 (v := .int .i64 (32 * (x : Int))) rfl (by kernel_rfl) rfl (fun w' hw => by simp [execOp, go_sem, wm]) hH ?_
        show wpAnyH _ _ _ _ _ _ _ ({ tmps := #[.agg A0.toArray, .pointer (some ⟨B, 0, none⟩), .pointer (some ⟨D, 0, none⟩), .pointer (some ⟨E, 0, none⟩), .int .i64 (x : Int), .pointer (some ⟨C, 0, none⟩), .agg A0.toArray, .int .i64 (x : Int), .bool (decide ((x : Int) < 2)), .int .i64 (x : Int), .agg L.toArray, .int .i64 (x : Int), .int .i64 (32 * (x : Int)), u13, u14, u15, u16, undef], defers := [] } : Act) _
        refine take_pure 2 (v := .slice (some ⟨E, 32 * x, none⟩) (64 - 32 * x) (64 - 32 * x)) rfl (by kernel_rfl) rfl (fun w' hw => exec_slice1 _ _ _ rfl _ _ _ rfl rfl h2 w') hH ?_
        show wpAnyH _ _ _ _ _ _ _ ({ tmps := #[.agg A0.toArray, .pointer (some ⟨B, 0, none⟩), .pointer (some ⟨D, 0, none⟩), .pointer (some ⟨E, 0, none⟩), .int .i64 (x : Int), .pointer (some ⟨C, 0, none⟩), .agg A0.toArray, .int .i64 (x : Int), .bool (decide ((x : Int) < 2)), .int .i64 (x : Int), .agg L.toArray, .int .i64 (x : Int), .int .i64 (32 * (x : Int)), .slice (some ⟨E, 32 * x, none⟩) (64 - 32 * x) (64 - 32 * x), u14, u15, u16, undef], defers := [] } : Act) _
        refine take_pure 3 (v := .slice (some ⟨C, 0, none⟩) 32 32) rfl (by kernel_rfl) rfl (fun w' hw => exec_slice0 _ _ rfl _ _ rfl (h1 C) w') hH ?_
        show wpAnyH _ _ _ _ _ _ _ ({ tmps := #[.agg A0.toArray, .pointer (some ⟨B, 0, none⟩), .pointer (some ⟨D, 0, none⟩), .pointer (some ⟨E, 0, none⟩), .int .i64 (x : Int), .pointer (some ⟨C, 0, none⟩), .agg A0.toArray, .int .i64 (x : Int), .bool (decide ((x : Int) < 2)), .int .i64 (x : Int), .agg L.toArray, .int .i64 (x : Int), .int .i64 (32 * (x : Int)), .slice (some ⟨E, 32 * x, none⟩) (64 - 32 * x) (64 - 32 * x), .slice (some ⟨C, 0, none⟩) 32 32, u15, u16, undef], defers := [] } : Act) _
        refine take_one 4 rfl rfl (by kernel_rfl) ?_
        refine wp_cpy _ _ rfl E (32 * x) (64 - 32 * x) (64 - 32 * x) C 0 32 32 64 32 (fun j => if j < 32 * x then F j else 0) (hlf F x) rfl rfl HN.out.2.o.drew (by show 32 = min 32 (64 - 32 * x); omega) (fun j hj => by rw [Nat.zero_add]; exact HN.out.1.drew.cell j hj) (by omega) ?_
        intro V4 g4 k4
        have hN : Wk B D E (fun j => if j < 32 * (x + 1) then F j else 0) w V4 := ⟨HN.out.2.r.drew.of (k4.out.block D nD), g4.out.congr fun i hi => by
          show (if 32 * x ≤ i ∧ i < 32 * x + 32 then F (32 * x + (i - 32 * x)) else if i < 32 * x then F i else 0) = if i < 32 * (x + 1) then F i else 0
          by_cases h1 : i < 32 * x
          · rw [if_neg (by omega), if_pos h1, if_pos (by omega)]
          · by_cases h2 : i < 32 * (x + 1)
            · rw [if_pos (by omega), if_pos h2, show 32 * x + (i - 32 * x) = i from by omega]
            · rw [if_neg (by omega), if_neg h1, if_neg h2], k4.out.below _ _ (below_drewN HN.out.2.below 1) nB⟩
        refine ⟨trivial, fun hH2 => ?_⟩
        show wpAnyH _ _ _ _ _ _ _ ({ tmps := #[.agg A0.toArray, .pointer (some ⟨B, 0, none⟩), .pointer (some ⟨D, 0, none⟩), .pointer (some ⟨E, 0, none⟩), .int .i64 (x : Int), .pointer (some ⟨C, 0, none⟩), .agg A0.toArray, .int .i64 (x : Int), .bool (decide ((x : Int) < 2)), .int .i64 (x : Int), .agg L.toArray, .int .i64 (x : Int), .int .i64 (32 * (x : Int)), .slice (some ⟨E, 32 * x, none⟩) (64 - 32 * x) (64 - 32 * x), .slice (some ⟨C, 0, none⟩) 32 32, goInt 32, u16, undef], defers := [] } : Act) _
        exact wpAnyH_done (by kernel_rfl) ⟨rfl, hN⟩ _
      rintro a' V4 ⟨rfl, hN⟩
      have HN4 : Hid (Wk B D E (fun j => if j < 32 * (x + 1) then F j else 0) w V4) := hN
      clear hN HN h1 h2 wm hik
      go_wp2
      go_roundw
      case rel => exact ⟨x + 1, by omega, by go_num, HN4⟩
      case measure => simp [intOf]; omega
    · obtain rfl : x = 2 := by omega
      have HE : Wk B D E F w wr := HK.out.congr fun i hi => by rw [if_pos (by omega)]
      have hr := HE.o.range
      have ht := HE.r.there .u8 F
      rw [HL.out] at hr ht
      have HB : Hid (Below B w wr) := HE.below
      clear HK HE HW hix
      go_wp2_with (first | refine wpList_load_mid rfl 23 _ rfl _ 0 rfl A0 _ hr Tryz.underlying23 rfl i9 ?_ | refine wpList_store_mid rfl 23 _ _ rfl _ 0 A0.toArray rfl rfl ht i9 hone ?_)
      have hs : (wr.setCells D 0 A0).rangeAt D 0 A0 := World.rangeAt_setCells_same wr _ 0 A0 (by simpa using ht)
      have hld := run_loadVar_mid (P := Tryz.prog) (wr.setCells D 0 A0) D 0 23 A0 _ hs Tryz.underlying23 rfl i9
      refine bodyPost_ret (v := .agg A0.toArray) ?_ rfl ⟨rfl, by rw [hB]; exact belows_put lD A0 0 HB.out⟩
      simp [results, Tryz.f50, Act.put, asAddr, hld]
end Go.Proofs.YtoimbjbdkkohcaaGreatDoor

/-
  The leaves of package raw: which modes there are, how many chips and words, where a byte stands, whose a bit is; the document's count of chips.
-/
namespace Go.Proofs.YtoimbjbdkkohcaaGreatDoor
open Go.RowKit

/-- a mode, its chips and its words -/
def Md (m n k : Int) : Prop := (m = 1 ∧ n = 9 ∧ k = 8) ∨ (m = 2 ∧ n = 36 ∧ k = 2) ∨ (m ≠ 1 ∧ m ≠ 2 ∧ n = 0 ∧ k = 0)
theorem Md.bits : Md 1 9 8 := .inl ⟨rfl, rfl, rfl⟩
theorem Md.chips : Md 2 36 2 := .inr (.inl ⟨rfl, rfl, rfl⟩)
theorem Md.none (m : Int) (h1 : m ≠ 1) (h2 : m ≠ 2) : Md m 0 0 := .inr (.inr ⟨h1, h2, rfl, rfl⟩)
theorem md_any (m : Int) : ∃ n k, Md m n k := by
  by_cases h1 : m = 1
  · subst h1; exact ⟨_, _, .bits⟩
  · by_cases h2 : m = 2
    · subst h2; exact ⟨_, _, .chips⟩
    · exact ⟨_, _, .none m h1 h2⟩

theorem countChips_any {m n k : Int} (h : Md m n k) (w : World) :
    Calls Tryz.prog 69 #[.int .i64 m] w fun e w' => e = .returned (.int .i64 n) ∧ w' = w := by
  rcases h with ⟨rfl, rfl, rfl⟩ | ⟨rfl, rfl, rfl⟩ | ⟨h1, h2, rfl, rfl⟩
  · skip
    go_enter Tryz.func69, Tryz.ntmps69
    go_wp2
    go_ret
    exact ⟨rfl, rfl⟩
  · skip
    go_enter Tryz.func69, Tryz.ntmps69
    go_wp2
    go_ret
    exact ⟨rfl, rfl⟩
  · skip
    have d1 : (m == 1) = false := by simpa using h1
    have d2 : (m == 2) = false := by simpa using h2
    go_enter Tryz.func69, Tryz.ntmps69
    go_wp2
    go_ret
    exact ⟨rfl, rfl⟩

theorem right9_any {m n k : Int} (h : Md m n k) (w : World) :
    Calls Tryz.prog 87 #[.int .i64 m] w fun e w' => e = .returned (.bool (decide (0 < n))) ∧ w' = w := by
  rcases h with ⟨rfl, rfl, rfl⟩ | ⟨rfl, rfl, rfl⟩ | ⟨h1, h2, rfl, rfl⟩
  · skip
    go_enter Tryz.func87, Tryz.ntmps87
    go_wp2
    go_ret
    exact ⟨rfl, rfl⟩
  · skip
    go_enter Tryz.func87, Tryz.ntmps87
    go_wp2
    go_ret
    exact ⟨rfl, rfl⟩
  · skip
    have d1 : (m == 1) = false := by simpa using h1
    have d2 : (m == 2) = false := by simpa using h2
    go_enter Tryz.func87, Tryz.ntmps87
    go_wp2
    go_ret
    exact ⟨rfl, rfl⟩

theorem countWords_any {m n k : Int} (h : Md m n k) (w : World) :
    Calls Tryz.prog 68 #[.int .i64 m] w fun e w' => e = .returned (.int .i64 k) ∧ w' = w := by
  have hr := right9_any h
  have hc := countChips_any h
  rcases h with ⟨rfl, rfl, rfl⟩ | ⟨rfl, rfl, rfl⟩ | ⟨h1, h2, rfl, rfl⟩
  · skip
    go_enter Tryz.func68, Tryz.ntmps68
    go_wp2_with (first | (go_at_call 87; refine (hr _).mono ?_; rintro e w' ⟨rfl, rfl⟩) | (go_at_call 69; refine (hc _).mono ?_; rintro e w' ⟨rfl, rfl⟩))
    go_ret
    exact ⟨rfl, rfl⟩
  · skip
    go_enter Tryz.func68, Tryz.ntmps68
    go_wp2_with (first | (go_at_call 87; refine (hr _).mono ?_; rintro e w' ⟨rfl, rfl⟩) | (go_at_call 69; refine (hc _).mono ?_; rintro e w' ⟨rfl, rfl⟩))
    go_ret
    exact ⟨rfl, rfl⟩
  · skip
    go_enter Tryz.func68, Tryz.ntmps68
    go_wp2_with (first | (go_at_call 87; refine (hr _).mono ?_; rintro e w' ⟨rfl, rfl⟩) | (go_at_call 69; refine (hc _).mono ?_; rintro e w' ⟨rfl, rfl⟩))
    go_ret
    exact ⟨rfl, rfl⟩

theorem below9_any (a b : Int) (w : World) :
    Calls Tryz.prog 67 #[.int .i64 a, .int .i64 b] w fun e w' => e = .returned (.bool (decide (0 ≤ a ∧ a < b))) ∧ w' = w := by
  by_cases h1 : 0 ≤ a
  · by_cases h2 : a < b
    · have d1 : decide (0 ≤ a) = true := by simpa using h1
      have d2 : decide (a < b) = true := by simpa using h2
      have dd : decide (0 ≤ a ∧ a < b) = true := by simp [h1, h2]
      rw [dd]
      go_enter Tryz.func67, Tryz.ntmps67
      go_wp2
      go_ret
      exact ⟨rfl, rfl⟩
    · have d1 : decide (0 ≤ a) = true := by simpa using h1
      have d2 : decide (a < b) = false := by simpa using h2
      have dd : decide (0 ≤ a ∧ a < b) = false := by simp [h2]
      rw [dd]
      go_enter Tryz.func67, Tryz.ntmps67
      go_wp2
      go_ret
      exact ⟨rfl, rfl⟩
  · have d1 : decide (0 ≤ a) = false := by simpa using h1
    have dd : decide (0 ≤ a ∧ a < b) = false := by simp [h1]
    rw [dd]
    go_enter Tryz.func67, Tryz.ntmps67
    go_wp2
    go_ret
    exact ⟨rfl, rfl⟩
theorem below9_yes (a b : Int) (h : 0 ≤ a ∧ a < b) (w : World) :
    Calls Tryz.prog 67 #[.int .i64 a, .int .i64 b] w fun e w' => e = .returned (.bool true) ∧ w' = w := by
  have := below9_any a b w
  rwa [show decide (0 ≤ a ∧ a < b) = true by simpa using h] at this
theorem below9_no (a b : Int) (h : ¬ (0 ≤ a ∧ a < b)) (w : World) :
    Calls Tryz.prog 67 #[.int .i64 a, .int .i64 b] w fun e w' => e = .returned (.bool false) ∧ w' = w := by
  have := below9_any a b w
  rwa [show decide (0 ≤ a ∧ a < b) = false by simpa using h] at this

theorem placeOf9_any {m n k : Int} (h : Md m n k) (x c : Int) (hx : 0 ≤ x ∧ x ≤ 100) (hc : 0 ≤ c ∧ c ≤ 100) (w : World) :
    Calls Tryz.prog 70 #[.int .i64 m, .int .i64 x, .int .i64 c] w fun e w' => e = .returned (.int .i64 (x * n + c)) ∧ w' = w := by
  have hcc := countChips_any h
  obtain ⟨h1, h2⟩ := hx
  obtain ⟨h3, h4⟩ := hc
  rcases h with ⟨rfl, rfl, rfl⟩ | ⟨rfl, rfl, rfl⟩ | ⟨h5, h6, rfl, rfl⟩
  · skip
    go_enter Tryz.func70, Tryz.ntmps70
    go_wp2_with (go_at_call 69; refine (hcc _).mono ?_; rintro e w' ⟨rfl, rfl⟩)
    go_ret
    exact ⟨rfl, rfl⟩
  · skip
    go_enter Tryz.func70, Tryz.ntmps70
    go_wp2_with (go_at_call 69; refine (hcc _).mono ?_; rintro e w' ⟨rfl, rfl⟩)
    go_ret
    exact ⟨rfl, rfl⟩
  · skip
    go_enter Tryz.func70, Tryz.ntmps70
    go_wp2_with (go_at_call 69; refine (hcc _).mono ?_; rintro e w' ⟨rfl, rfl⟩)
    go_ret
    exact ⟨by first | rfl | simp, rfl⟩
end Go.Proofs.YtoimbjbdkkohcaaGreatDoor

/-
  Bits of bytes: has, Get, Differ, and the document's Get and Differ.
-/
namespace Go.Proofs.YtoimbjbdkkohcaaGreatDoor
open Go.RowKit Go.Shelf
open Bm (wt wtK lef)

/-- a slice of n bytes, with room for c, holds F (which is 0 past its end) -/
structure Sl (w : World) (a : Option Addr) (n c : Nat) (F : Nat → Nat) : Prop where
  cells : 0 < n → ∃ b o, a = some ⟨b, o, none⟩ ∧ ∀ j, j < n → w.cell? ⟨b, o + j, none⟩ = some (.int .u8 (F j : Int))
  byt : ∀ j, F j < 256
  past : ∀ j, n ≤ j → F j = 0
  cap : n ≤ c
  nil : a = none → c = 0
theorem Sl.kept {w w' : World} {a : Option Addr} {n c : Nat} {F : Nat → Nat} (h : Sl w a n c F) (k : ∀ b o, a = some ⟨b, o, none⟩ → 0 < n → w'.heap[b]? = w.heap[b]?) : Sl w' a n c F :=
  ⟨fun hn => by
    obtain ⟨b, o, e, hc⟩ := h.cells hn
    exact ⟨b, o, e, fun j hj => (World.cell?_of_block (w := w) (a := ⟨b, o + j, none⟩) (k b o e hn)).trans (hc j hj)⟩, h.byt, h.past, h.cap, h.nil⟩
theorem Sl.lt {w : World} {a : Option Addr} {n c : Nat} {F : Nat → Nat} (h : Sl w a n c F) (b o : Nat) (e : a = some ⟨b, o, none⟩) (hn : 0 < n) : b < w.heap.size := by
  obtain ⟨b', o', e', hc⟩ := h.cells hn
  rw [e] at e'
  cases e'
  exact cell_lt (hc 0 hn)
theorem Sl.below {C : Nat} {w w' : World} {a : Option Addr} {n c : Nat} {F : Nat → Nat} (h : Sl w a n c F) (k : Below C w w') (hC : w.heap.size ≤ C) : Sl w' a n c F :=
  h.kept fun b o e hn => k.block b (by have := h.lt b o e hn; omega)
theorem Sl.stay {C : Nat} {w w' : World} {a : Option Addr} {n c : Nat} {F : Nat → Nat} (h : Sl w a n c F) (k : Stay C w w') : Sl w' a n c F :=
  ⟨fun hn => by
    obtain ⟨b, o, e, hc⟩ := h.cells hn
    exact ⟨b, o, e, fun j hj => k.cell (hc j hj)⟩, h.byt, h.past, h.cap, h.nil⟩
theorem Sl.drewN {w : World} {a : Option Addr} {n c : Nat} {F : Nat → Nat} (h : Sl w a n c F) (k : Nat) : Sl (w.drewN k) a n c F := h.kept fun _ _ _ _ => rfl
theorem Sl.set {w : World} {a : Option Addr} {n c d : Nat} {F : Nat → Nat} (h : Sl w a n c F) (u : Value) (k : ∀ b o, a = some ⟨b, o, none⟩ → 0 < n → b ≠ d) : Sl (w.setCell ⟨d, 0, none⟩ u) a n c F :=
  h.kept fun b o e hn => Below.heap_setCell w _ u b (k b o e hn)
/-- the first m of them -/
def cut (m : Nat) (F : Nat → Nat) (j : Nat) : Nat := if j < m then F j else 0
theorem Sl.take {w : World} {a : Option Addr} {n c : Nat} {F : Nat → Nat} (h : Sl w a n c F) (m : Nat) (hm : m ≤ n) : Sl w a m c (cut m F) :=
  ⟨fun h0 => by
    obtain ⟨b, o, e, hc⟩ := h.cells (by omega)
    exact ⟨b, o, e, fun j hj => by rw [hc j (by omega)]; simp [cut, hj]⟩,
   fun j => by unfold cut; split; exact h.byt j; decide, fun j hj => by unfold cut; rw [if_neg (by omega)], by have := h.cap; omega, h.nil⟩
/-- what the row's frame tells of a slice -/
theorem IsRow.slice {w : World} {a : Option Addr} {n c : Nat} {zs : List Int} (h : IsRow .u8 w a n c zs) : ∃ F, Sl w a n c F ∧ (n : Int) ≤ 9223372036854775807 ∧ c ≤ maxLen := by
  obtain ⟨sa, ba, ea, ca, ma⟩ := h.slAt
  have hby : ∀ j : Nat, ((zs.take n)[j]?.getD 0).toNat < 256 := fun j => by
    by_cases hj : j < (zs.take n).length
    · have := ba j hj; omega
    · rw [List.getElem?_eq_none (by omega)]; decide
  refine ⟨fun j => ((zs.take n)[j]?.getD 0).toNat, ⟨?_, hby, ?_, ca, ?_⟩, by unfold maxLen at ma; omega, ?_⟩
  · intro hn
    rcases sa with sa | ⟨b, o, e, _, hc⟩
    · rw [sa] at ea; simp at ea; omega
    · refine ⟨b, o, e, fun j hj => ?_⟩
      have := ba j (by omega)
      rw [hc j (by omega)]
      congr 2
      omega
  · intro j hj
    simp only [List.getElem?_eq_none (show (zs.take n).length ≤ j by omega)]; rfl
  · intro e
    rcases h with ⟨_, _, hc, _⟩ | ⟨x, hx, _⟩
    · exact hc
    · rw [e] at hx; cases hx
  · rcases h with ⟨_, _, hc, _⟩ | ⟨x, hx, _, hm, _⟩
    · rw [hc]; unfold maxLen; omega
    · exact hm

/-- the bit i of F -/
def gb (F : Nat → Nat) (i : Nat) : Nat := F (i / 8) / 2 ^ (i % 8) % 2
theorem gb_le (F : Nat → Nat) (i : Nat) : gb F i ≤ 1 := by unfold gb; omega
/-- how many of the first k bits are unlike -/
def dif (F G : Nat → Nat) : Nat → Nat
  | 0 => 0
  | k + 1 => dif F G k + (if gb F k = gb G k then 0 else 1)
theorem dif_le (F G : Nat → Nat) (k : Nat) : dif F G k ≤ k := by
  induction k with
  | zero => simp [dif]
  | succ k ih => simp only [dif]; split <;> omega
theorem dif_yes (F G : Nat → Nat) (k : Nat) (h : ¬ gb F k = gb G k) : dif F G (k + 1) = dif F G k + 1 := by simp [dif, h]
theorem dif_no (F G : Nat → Nat) (k : Nat) (h : gb F k = gb G k) : dif F G (k + 1) = dif F G k := by simp [dif, h]
theorem dif_congr (F G F' G' : Nat → Nat) (k : Nat) (h : ∀ i, i < k → (gb F i = gb G i ↔ gb F' i = gb G' i)) : dif F G k = dif F' G' k := by
  induction k with
  | zero => rfl
  | succ k ih =>
    simp only [dif, ih fun i hi => h i (by omega)]
    have := h k (by omega)
    by_cases e : gb F k = gb G k
    · rw [if_pos e, if_pos (this.1 e)]
    · rw [if_neg e, if_neg fun h' => e (this.2 h')]
theorem xor_bit (x y r : Nat) : (x ^^^ y) / 2 ^ r % 2 = if x / 2 ^ r % 2 = y / 2 ^ r % 2 then 0 else 1 := by
  rw [Nat.xor_div_two_pow]
  have e := Nat.xor_mod_two_pow (a := x / 2 ^ r) (b := y / 2 ^ r) (n := 1)
  simp only [Nat.pow_one] at e
  rw [e]
  rcases Nat.mod_two_eq_zero_or_one (x / 2 ^ r) with h1 | h1 <;> rcases Nat.mod_two_eq_zero_or_one (y / 2 ^ r) with h2 | h2 <;> rw [h1, h2] <;> rfl
theorem dif_part (F G : Nat → Nat) (j r : Nat) (hr : r ≤ 8) : dif F G (8 * j + r) = dif F G (8 * j) + wtK r (F j ^^^ G j) := by
  induction r with
  | zero => simp [wtK]
  | succ r ih =>
    rw [Bm.wtK_succ_hi, xor_bit, ← Nat.add_assoc, dif, ih (by omega)]
    have e : ∀ H : Nat → Nat, gb H (8 * j + r) = H j / 2 ^ r % 2 := fun H => by unfold gb; rw [show (8 * j + r) / 8 = j from by omega, show (8 * j + r) % 8 = r from by omega]
    rw [e F, e G]; omega
theorem dif_byte (F G : Nat → Nat) (j : Nat) (hF : F j < 256) (hG : G j < 256) : dif F G (8 * (j + 1)) = dif F G (8 * j) + wt (F j ^^^ G j) := by
  rw [show 8 * (j + 1) = 8 * j + 8 from by omega, dif_part F G j 8 (Nat.le_refl _), Bm.wtK_wt 8 _ (by decide) (Nat.xor_lt_two_pow (n := 8) hF hG)]

/-! ### has, Get -/
theorem has_yes (a : Option Addr) (n c : Nat) (i : Int) (h0 : 0 ≤ i) (h1 : i < 8 * n) (hn : (n : Int) ≤ 1000) (w : World) :
    Calls Tryz.prog 61 #[.slice a n c, .int .i64 i] w fun e w' => e = .returned (.bool true) ∧ w' = w := by
  have e : i.tdiv 8 = i / 8 := Int.tdiv_eq_ediv_of_nonneg h0
  have d : decide (i / 8 < (n : Int)) = true := by simp; omega
  go_enter Tryz.func61, Tryz.ntmps61
  go_wp2_with (simp only [e])
  go_ret
  exact ⟨rfl, rfl⟩
theorem has_no (a : Option Addr) (n c : Nat) (i : Int) (h : i < 0 ∨ 8 * n ≤ i) (hi : i ≤ 9223372036854775807) (hn : (n : Int) ≤ 1000) (w : World) :
    Calls Tryz.prog 61 #[.slice a n c, .int .i64 i] w fun e w' => e = .returned (.bool false) ∧ w' = w := by
  by_cases h0 : 0 ≤ i
  · have e : i.tdiv 8 = i / 8 := Int.tdiv_eq_ediv_of_nonneg h0
    have d : decide (i / 8 < (n : Int)) = false := by simp; omega
    have d2 : ¬ i / 8 < (n : Int) := by omega
    clear h
    go_enter Tryz.func61, Tryz.ntmps61
    go_wp2_with (simp only [e])
    go_ret
    exact ⟨rfl, rfl⟩
  · have d : decide (0 ≤ i) = false := by simp; omega
    clear h
    go_enter Tryz.func61, Tryz.ntmps61
    go_wp2
    go_ret
    exact ⟨rfl, rfl⟩

theorem and1 (x r : Nat) (hx : x < 256) : bits .and .u8 ((x : Int) / 2 ^ r) 1 = ((x / 2 ^ r % 2 : Nat) : Int) := by
  have e : (x : Int) / 2 ^ r = ((x / 2 ^ r : Nat) : Int) := by simp
  have l := Nat.div_le_self x (2 ^ r)
  rw [e]
  exact (u8_and_nat (x / 2 ^ r) 1 (by omega) (by decide)).trans (by rw [nat_mask1])
theorem gb_past (F : Nat → Nat) (n i : Nat) (h : ∀ j, n ≤ j → F j = 0) (hi : 8 * n ≤ i) : gb F i = 0 := by unfold gb; rw [h (i / 8) (by omega)]; simp
/-! ### the document's Get and Differ -/
end Go.Proofs.YtoimbjbdkkohcaaGreatDoor

/-
  Differ, Clone, Flip.
-/
namespace Go.Proofs.YtoimbjbdkkohcaaGreatDoor
open Go.RowKit Go.Shelf
open Bm (wt wtK lef)

theorem u8_info : (Tryz.prog.info? 5).map (fun i => (i.zero, i.size, i.bytes)) = some (some (.int .u8 0), 1, 1) := by kernel_rfl
theorem u8_parts : ∃ i, Tryz.prog.info? 5 = some i ∧ i.zero = some (.int .u8 0) ∧ i.size = 1 ∧ i.bytes = 1 := by
  obtain ⟨i, hi, h⟩ := Option.map_eq_some_iff.1 u8_info
  simp only [Prod.mk.injEq] at h
  exact ⟨i, hi, h.1, h.2.1, h.2.2⟩

/-- a slice of n bytes in new memory -/
structure NewSl (w w' : World) (a : Option Addr) (n c : Nat) (F : Nat → Nat) : Prop where
  sl : Sl w' a n c F
  below : Below w.heap.size w w'
  fresh : 0 < n → ∃ g, a = some ⟨g, 0, none⟩ ∧ w.heap.size ≤ g ∧ ∀ o, w'.frozen? ⟨g, o, none⟩ = false
/-- what append lays, as bytes -/
theorem owned_bytes {w : World} {base n : Nat} {v : Value} {F : Nat → Nat} (hb : ∀ j, F j < 256) (hp : ∀ j, n ≤ j → F j = 0) (hv : v ≠ .slice none 0 0) (h : w.ownsRow base 5 1 v n ((List.range n).map fun j => .int .u8 (F j : Int))) :
    ∃ g c, v = .slice (some ⟨g, 0, none⟩) n c ∧ base ≤ g ∧ Sl w (some ⟨g, 0, none⟩) n c F ∧ ∀ o, w.frozen? ⟨g, o, none⟩ = false := by
  obtain ⟨h1, ⟨h2, _⟩ | ⟨g, cap, cur, hv', hg, hh, hnc, hcm, hsz, htk⟩⟩ := h
  · exact absurd h2 hv
  · refine ⟨g, cap, hv', hg, ⟨fun _ => ⟨g, 0, rfl, fun j hj => ?_⟩, hb, hp, hnc, fun e => by cases e⟩, fun o => by simp [World.frozen?, hh]⟩
    have e : cur[j]? = ((List.range n).map fun j => Value.int .u8 (F j : Int))[j]? := by
      rw [← htk, List.getElem?_take_of_lt (by omega)]; simp
    rw [Nat.zero_add]
    simp only [World.cell?, hh]
    simp [e, hj]

set_option maxHeartbeats 1000000 in
theorem clone_any (a : Option Addr) (n c : Nat) (F : Nat → Nat) (hn : n ≤ 1000) (w : World) (hs : Sl w a n c F) :
    Calls Tryz.prog 60 #[.slice a n c] w fun e w' => ∃ a' c', e = .returned (.slice a' n c') ∧ NewSl w w' a' n c' F := by
  cases a with
  | none =>
    have hc := hs.nil rfl
    have hcap := hs.cap
    obtain rfl : n = 0 := by omega
    obtain rfl : c = 0 := hc
    have hnil : ∀ w, (binOp .eql 69 (.slice none 0 0) (.slice none 0 0)).run Tryz.prog w = .ok (.bool true) w := fun w => by kernel_rfl
    have H : Hid (Sl w none 0 0 F) := hs
    clear hs hcap
    go_enter Tryz.func60, Tryz.ntmps60
    go_wp2
    go_ret
    exact ⟨none, 0, rfl, H.out, Below.refl _ _, fun h => by omega⟩
  | some x =>
    have hnil : ∀ w, (binOp .eql 69 (.slice (some x) n c) (.slice none 0 0)).run Tryz.prog w = .ok (.bool false) w := fun w => by kernel_rfl
    obtain ⟨i0, hi, hz0, hz1, hz2⟩ := u8_parts
    obtain ⟨news, Hnews⟩ : ∃ news, Hid (news = (List.range n).map fun j => Value.int .u8 (F j : Int)) := ⟨_, rfl⟩
    have HS : Hid (Sl w (some x) n c F) := hs
    clear hs
    go_enter Tryz.func60, Tryz.ntmps60
    go_wp2_with (at_builtin; refine wpList_append_own _ rfl _ _ 69 rfl w.heap.size 5 i0 (.int .u8 0) 1 1 Tryz.underlying69 hi hz0 hz1 hz2 rfl (by decide) _ 0 [] rfl ⟨rfl, .inr ⟨w.heap.size, 0, #[], rfl, Nat.le_refl _, World.alloc_heap_new w _, Nat.le_refl _, Nat.zero_le _, rfl, rfl⟩⟩ x n c news rfl ?c0 ?c1 ?c2 ?c3 ?c4 ?c5 ?_)
    case c0 => rw [Hnews.out]; simp
    case c1 =>
      intro j u hj
      rw [Hnews.out] at hj
      have hjn : j < n := by have := (List.getElem?_eq_some_iff.1 hj).1; simpa using this
      obtain ⟨b, o, e, hc⟩ := HS.out.cells (by omega)
      cases e
      simp [hjn] at hj
      rw [← hj]
      have hb : b < w.heap.size := HS.out.lt b o rfl (by omega)
      have := (World.cell?_of_block (w := w) (a := ⟨b, o + j, none⟩) (Below.heap_alloc w (.cells #[] 5) b hb)).trans (hc j hjn)
      rw [← this]
      unfold Addr.add
      split
      · rename_i h; simp [h]
      · rfl
    case c2 => intro u hu; rw [Hnews.out] at hu; obtain ⟨y, _, rfl⟩ := List.mem_map.1 hu; rfl
    case c3 => unfold maxLen; omega
    case c4 => omega
    case c5 => simp
    intro v' w1 hown hgrow hiff
    have hB : Below w.heap.size w w1 := by
      have h0 : Below w.heap.size w (w.alloc (.cells #[] 5)) := (Below.refl _ _).alloc (Nat.le_refl _) _
      exact h0.grown hgrow (by simp) (fun k e => by cases e; exact Nat.le_refl _)
    have hv : v' ≠ .slice none 0 0 := hiff
    rw [Hnews.out] at hown
    obtain ⟨g, c', rfl, hg, hsl, hfz⟩ := owned_bytes HS.out.byt HS.out.past hv (by simpa using hown)
    clear hown hgrow hiff hv
    go_wp2
    go_ret
    exact ⟨some ⟨g, 0, none⟩, c', rfl, hsl, hB, fun _ => ⟨g, rfl, hg, hfz⟩⟩

/-- F with the bit i turned -/
def flp (F : Nat → Nat) (i : Nat) : Nat → Nat := fun j => if j = i / 8 then F j ^^^ 2 ^ (i % 8) else F j
theorem flp_byt (F : Nat → Nat) (i : Nat) (h : ∀ j, F j < 256) (j : Nat) : flp F i j < 256 := by
  unfold flp
  split
  · refine Nat.xor_lt_two_pow (n := 8) (h j) ?_
    have : 2 ^ (i % 8) ≤ 2 ^ 7 := Nat.pow_le_pow_right (by decide) (by omega)
    omega
  · exact h j
theorem gb_flp (F : Nat → Nat) (i k : Nat) : gb (flp F i) k = if k = i then 1 - gb F k else gb F k := by
  unfold gb flp
  by_cases hb : k / 8 = i / 8
  · rw [if_pos hb, xor_bit]
    by_cases e : k = i
    · subst e
      rw [if_pos rfl, Nat.div_self (Nat.two_pow_pos _)]
      rcases Nat.mod_two_eq_zero_or_one (F (k / 8) / 2 ^ (k % 8)) with h | h <;> rw [h] <;> rfl
    · rw [if_neg e]
      have hr : k % 8 ≠ i % 8 := by omega
      have h0 : 2 ^ (i % 8) / 2 ^ (k % 8) % 2 = 0 := by
        by_cases hlt : i % 8 < k % 8
        · rw [Nat.div_eq_of_lt (Nat.pow_lt_pow_right (by decide) hlt)]
        · obtain ⟨d, hd⟩ : ∃ d, i % 8 = k % 8 + (d + 1) := ⟨i % 8 - k % 8 - 1, by omega⟩
          rw [hd, Nat.pow_add, Nat.mul_div_cancel_left _ (Nat.two_pow_pos _), Nat.pow_succ]; omega
      rw [h0]
      rcases Nat.mod_two_eq_zero_or_one (F (k / 8) / 2 ^ (k % 8)) with h | h <;> rw [h] <;> rfl
  · rw [if_neg hb, if_neg (fun e => hb (by rw [e]))]

set_option maxHeartbeats 2000000 in
theorem flip_yes (a : Option Addr) (n c : Nat) (F : Nat → Nat) (i : Nat) (hi : i < 8 * n) (hn : n ≤ 1000) (w : World) (hs : Sl w a n c F) :
    Calls Tryz.prog 31 #[.slice a n c, .int .i64 (i : Int)] w fun e w' => ∃ a' c', e = .returned (.slice a' n c') ∧ NewSl w w' a' n c' (flp F i) := by
  obtain ⟨j, hj, Hj⟩ : ∃ j, j < n ∧ Hid (i / 8 = j) := ⟨_, by omega, rfl⟩
  obtain ⟨r, hr, Hr⟩ : ∃ r, r < 8 ∧ Hid (i % 8 = r) := ⟨_, by omega, rfl⟩
  have e1 : (i : Int).tdiv 8 = (j : Int) := by rw [Int.tdiv_eq_ediv_of_nonneg (by omega)]; have := Hj.out; omega
  have e2 : (i : Int).tmod 8 = (r : Int) := by rw [Int.tmod_eq_emod_of_nonneg (by omega)]; have := Hr.out; omega
  have e1' : (i : Int) / 8 = (j : Int) := by have := Hj.out; omega
  have e2' : (i : Int) % 8 = (r : Int) := by have := Hr.out; omega
  obtain ⟨s, hsh, hs7, Hs⟩ : ∃ s : Nat, (2 : Int) ^ r = (s : Int) ∧ s ≤ 128 ∧ Hid (s = 2 ^ r) := ⟨2 ^ r, by simp, by have : 2 ^ r ≤ 2 ^ 7 := Nat.pow_le_pow_right (by decide) (by omega); omega, rfl⟩
  have HS : Hid (Sl w a n c F) := hs
  have hx := hs.byt j
  obtain ⟨x, Hx⟩ : ∃ x, Hid (F j = x) := ⟨_, rfl⟩
  rw [Hx.out] at hx
  obtain ⟨z, hz, rz, Hz⟩ : ∃ z : Nat, bits .xor .u8 (x : Int) (s : Int) = (z : Int) ∧ z < 256 ∧ Hid (x ^^^ s = z) := ⟨_, u8_xor_nat x s hx (by omega), Nat.xor_lt_two_pow (n := 8) hx (by omega), rfl⟩
  clear hs
  go_enter Tryz.func31, Tryz.ntmps31
  go_wp2_with fail
  refine (clone_any a n c F hn _ HS.out).mono ?_
  rintro e w1 ⟨a', c', rfl, N⟩
  obtain ⟨g, rfl, hg, hfz⟩ := N.fresh (by omega)
  obtain ⟨g', o', e, hc⟩ := N.sl.cells (by omega)
  cases e
  have hcell := hc j hj
  rw [Hx.out, Nat.zero_add] at hcell
  have hcell2 : w1.drew.cell? ⟨g, j, none⟩ = some (.int .u8 (x : Int)) := hcell
  have hfz1 := hfz j
  have hfz2 : w1.drew.frozen? ⟨g, j, none⟩ = false := hfz1
  have HN : Hid (NewSl w w1 (some ⟨g, 0, none⟩) n c' F) := N
  clear N hc
  go_wp2_with (go_at_call 61; refine (has_yes _ _ _ _ (by omega) (by omega) (by omega) _).mono ?_; rintro e w' ⟨rfl, rfl⟩)
  go_region
  all_goals
    go_wp2
    go_ret
    refine ⟨some ⟨g, 0, none⟩, c', rfl, ⟨fun _ => ⟨g, 0, rfl, fun k hk => ?_⟩, flp_byt F i HN.out.sl.byt, fun k hk => ?_, HN.out.sl.cap, fun e => by cases e⟩, ?_, fun _ => ⟨g, rfl, hg, fun o => ?_⟩⟩
    · rw [Nat.zero_add]
      obtain ⟨g2, o2, e, hc⟩ := HN.out.sl.cells (by omega)
      cases e
      have hck := hc k hk
      rw [Nat.zero_add] at hck
      by_cases ekj : k = j
      · subst ekj
        change (World.setCell _ ⟨g, k, none⟩ _).cell? ⟨g, k, none⟩ = _
        rw [World.cell?_setCell_same' _ _ _ (by rw [hcell]; rfl)]
        have : flp F i k = z := by unfold flp; rw [if_pos Hj.out.symm, Hr.out, ← Hs.out, Hx.out, Hz.out]
        rw [this]
      · have : flp F i k = F k := by unfold flp; rw [if_neg (by rw [Hj.out]; exact ekj)]
        rw [this, ← hck]
        change (World.setCell _ ⟨g, j, none⟩ _).cell? ⟨g, k, none⟩ = _
        have hne : (⟨g, j, none⟩ : Addr) ≠ ⟨g, k, none⟩ := fun e => ekj (by cases e; rfl)
        first | exact World.cell?_setCell_other _ hne | exact World.cell?_setCell_other _ _ hne | exact World.cell?_setCell_other _ _ _ hne | exact World.cell?_setCell_other _ _ _ _ hne
    · have := HN.out.sl.past k hk
      unfold flp; rw [if_neg (by rw [Hj.out]; omega)]; exact this
    · exact (HN.out.below.drew).setCell (p := ⟨g, j, none⟩) hg _
    · change (World.setCell _ _ _).frozen? _ = false
      rw [World.frozen?_setCell]; exact hfz o
set_option maxHeartbeats 1000000 in
theorem flip_no (a : Option Addr) (n c : Nat) (F : Nat → Nat) (i : Int) (h : i < 0 ∨ 8 * n ≤ i) (hi : i ≤ 9223372036854775807) (hn : n ≤ 1000) (w : World) (hs : Sl w a n c F) :
    Calls Tryz.prog 31 #[.slice a n c, .int .i64 i] w fun e w' => ∃ a' c', e = .returned (.slice a' n c') ∧ NewSl w w' a' n c' F := by
  have H : Hid (i < 0 ∨ 8 * (n : Int) ≤ i) := h
  have HS : Hid (Sl w a n c F) := hs
  clear h hs
  go_enter Tryz.func31, Tryz.ntmps31
  go_wp2_with fail
  refine (clone_any a n c F hn _ HS.out).mono ?_
  rintro e w1 ⟨a', c', rfl, N⟩
  have HN : Hid (NewSl w w1 a' n c' F) := N
  clear N
  go_wp2_with (go_at_call 61; refine (has_no _ _ _ _ H.out hi (by omega) _).mono ?_; rintro e w' ⟨rfl, rfl⟩)
  go_ret
  exact ⟨a', c', rfl, HN.out⟩
end Go.Proofs.YtoimbjbdkkohcaaGreatDoor

/-
  Whose a bit is; how many bits, or bytes, of two words are unlike.
-/
namespace Go.Proofs.YtoimbjbdkkohcaaGreatDoor
open Go.RowKit
open Bm (wt wtK)
attribute [local go_sem] Oper.semAt_some


/-- n bytes of a block, as functions of Nat -/
def pc (F : Nat → Int) (o n j : Nat) : Nat := if j < n then (F (o + j)).toNat else 0
theorem pc_sl (F : Nat → Int) (w : World) (A o n c : Nat) (hF : Byts 72 F) (h : Bk .u8 w A 72 F) (hn : o + n ≤ 72) (hc : n ≤ c) : Sl w (some ⟨A, o, none⟩) n c (pc F o n) :=
  ⟨fun _ => ⟨A, o, rfl, fun j hj => by
    have := hF (o + j) (by omega)
    rw [h.cell (o + j) (by omega)]
    unfold pc
    rw [if_pos hj]
    congr 2; omega⟩, fun j => by
    unfold pc
    split
    · have := hF (o + j) (by omega); omega
    · decide, fun j hj => by unfold pc; rw [if_neg (by omega)], hc, fun e => by cases e⟩
theorem pc_byt (F : Nat → Int) (o n j : Nat) (hF : Byts 72 F) (hn : o + n ≤ 72) : pc F o n j < 256 := by
  unfold pc
  split
  · have := hF (o + j) (by omega); omega
  · decide
theorem dif_sm (F G : Nat → Int) (o n : Nat) (hF : Byts 72 F) (hG : Byts 72 G) (hn : o + n ≤ 72) : ∀ j, j ≤ n → dif (pc F o n) (pc G o n) (8 * j) = Rw.sm 1 F G o j
  | 0, _ => rfl
  | j + 1, hj => by
    rw [dif_byte _ _ j (pc_byt F o n j hF hn) (pc_byt G o n j hG hn), dif_sm F G o n hF hG hn j (by omega), Rw.sm]
    unfold Rw.dl pc
    rw [if_pos rfl, if_pos (by omega), if_pos (by omega)]

end Go.Proofs.YtoimbjbdkkohcaaGreatDoor

/-
  Where a chip's bytes stand: what Of tells, and the iterator.
-/
namespace Go.Proofs.YtoimbjbdkkohcaaGreatDoor
open Go.RowKit Go.Shelf
attribute [local go_sem] Oper.semAt_some

theorem stay_below9 {W W' : World} (k : Below W.heap.size W W') : Stay W.heap.size W W' :=
  ⟨k.os, k.tape, k.output, k.size, fun b _ hb _ => (k.block b (Array.getElem?_eq_some_iff.1 hb).1).trans hb, fun b hb => k.block b hb⟩
end Go.Proofs.YtoimbjbdkkohcaaGreatDoor

/-
  The document's example, which every statement of layer 9 holds the program against first.
-/
namespace Go.Proofs.YtoimbjbdkkohcaaGreatDoor
open Go.RowKit Go.Shelf
attribute [local go_sem] Oper.semAt_some

/-- between two rounds of the example's range -/
structure An (B : Nat) (w : World) (x : Nat) (W : World) : Prop where
  n : Box W (B + 1) (.int .i64 (x : Int))
  r : Box W B (.bool false)
  below : Below B w W
theorem An.stay {B C x : Nat} {w W W' : World} (h : An B w x W) (k : Stay C W W') (hC : B ≤ C) : An B w x W' := ⟨h.n.stay k, h.r.stay k, below_stay h.below k hC⟩
theorem An.step {B x : Nat} {w W : World} (h : An B w x W) : An B w (x + 1) (W.setCell ⟨B + 1, 0, none⟩ (.int .i64 ((x : Int) + 1))) :=
  ⟨h.n.set _, h.r.other (by omega) _, h.below.setCell (p := ⟨B + 1, 0, none⟩) (by simp) _⟩

end Go.Proofs.YtoimbjbdkkohcaaGreatDoor

/-
  A region that draws its order and whose own operations only read, while what it calls may lay new blocks: one walk, in the order of the text, serves every order. The worlds that it may meet are named by an index u: what is known of them is known of 'f u'.
-/
namespace Go.Proofs.YtoimbjbdkkohcaaGreatDoor
open Go.RowKit

theorem region_calm {id : Nat} {P : Program} {Q : Exit → Act → World → Prop} {a : Act} {w : World} {l : List Oper} (hm : P.follows .mixedOrders = true) (hB : Region.lexB .any l.toArray = true) (S : World → Prop) (hS : S w.drew)
    (h : ∀ (U : Type) (_ : Nonempty U) (f : U → World), (∀ u, S (f u)) → (∀ W, S W → ∃ u, W = f u) → wpQuiet P l.toArray (fun w' => ∃ u, w' = f u) (fun a' => ∀ w', (∃ u, w' = f u) → Q .normal a' w') l a) : (Code.region id l.toArray true).wp P Q a w := by
  have := h { x : World // S x } ⟨⟨_, hS⟩⟩ (fun x => x.1) (fun u => u.2) (fun W hW => ⟨⟨W, hW⟩, rfl⟩)
  exact wp_region_quiet (C := fun w' => ∃ u : { x : World // S x }, w' = u.1) hm hB ⟨⟨_, hS⟩, rfl⟩ (by simpa using this)
theorem round_calm {id n lo : Nat} {P : Program} {Q : Exit → Act → World → Prop} {a : Act} {w : World} {l : List Oper} (hm : P.follows .mixedOrders = true) (hB : Region.lexB .any l.toArray = true) (hd : noDefer l = true) (S : World → Prop) (hS : S w.drew)
    (h : ∀ (U : Type) (_ : Nonempty U) (f : U → World), (∀ u, S (f u)) → (∀ W, S W → ∃ u, W = f u) → wpQuiet P l.toArray (fun w' => ∃ u, w' = f u) (fun a' => ∀ w', (∃ u, w' = f u) → Q .normal a' w') l a) : (Code.region id l.toArray true).wpIn (Fence.wide.inRound lo) n P Q a w := by
  have h1 := h { x : World // S x } ⟨⟨_, hS⟩⟩ (fun x => x.1) (fun u => u.2) (fun W hW => ⟨⟨W, hW⟩, rfl⟩)
  simp only [Region.lexB, Bool.and_eq_true] at hB
  refine wpIn_region_any hm (anyIn_round (by simpa using noDefer_spec hd) _ _ _ _ (wpAnyIn_of_quiet (C := fun w' => ∃ u : { x : World // S x }, w' = u.1) (Q := fun a' => ∀ w', (∃ u : { x : World // S x }, w' = u.1) → Q .normal a' w') rfl (fun _ w' hw' h => h w' hw') _ _ _ _ ⟨⟨_, hS⟩, rfl⟩ ?_))
  have := wpAnyQIn_lex (F := Fence.wide) (n := n) (C := fun w' => ∃ u : { x : World // S x }, w' = u.1) (md := .any) hB.1 l 0 (Array.replicate l.toArray.size false) a (by simp) (by simpa using hB.2) (wpQuietIn_wide h1)
  simpa using this
/-- a callee that turns nothing -/
theorem calm_same {P : Program} {g : FuncId} {args : Array Value} {U : Type} {f : U → World} {u : U} {v : Value} (h : Calls P g args (f u) fun e w' => e = .returned v ∧ w' = f u) : Calls P g args (f u) fun e w'' => e = .returned v ∧ ∃ x, w'' = f x :=
  h.mono fun _ _ ⟨he, hw⟩ => ⟨he, u, hw⟩
/-- a callee that lays new blocks -/
theorem calm_next {P : Program} {g : FuncId} {args : Array Value} {U : Type} {f : U → World} {u : U} {v : Value} (hn : ∀ u W, Below (f u).heap.size (f u) W → ∃ x, W = f x) (h : Calls P g args (f u) fun e w' => e = .returned v ∧ Below (f u).heap.size (f u) w') : Calls P g args (f u) fun e w'' => e = .returned v ∧ ∃ x, w'' = f x :=
  h.mono fun _ _ ⟨he, hw⟩ => ⟨he, hn u _ hw⟩
theorem below_drew1 (w : World) : Below w.heap.size w w.drew := below_stay (Below.refl _ w) (Stay.drewN _ w 1) (Nat.le_refl _)
end Go.Proofs.YtoimbjbdkkohcaaGreatDoor

/-
  What the statements of layer 9 share: arrays of 72 bytes that lie, are loaded in regions of every kind, and are held against one another.
-/
namespace Go.Proofs.YtoimbjbdkkohcaaGreatDoor
open Go.RowKit Go.Shelf
attribute [local go_sem] Oper.semAt_some

theorem args_byts (n : Nat) (F : Nat → Int) (h : ∀ i, i < n → (Lit.int .u8 (F i)).wf = true) : Byts n F := fun i hi => by
  have := bounds_u8 (h i hi); omega
theorem gdR : Tryz.prog.eqGuardType Tryz.prog.depth 27 = false := by kernel_rfl
theorem infoR : (Tryz.prog.info? 27).map (·.size) = some 72 := by kernel_rfl
theorem infoA9 : (Tryz.prog.info? 26).map (·.size) = some 72 := by kernel_rfl
theorem zeroR (w : World) : (zeroValue 27).run Tryz.prog w = .ok (.agg (ints .u8 72 fun _ => 0).toArray) w := by kernel_rfl
theorem zeroA9 (w : World) : (zeroValue 26).run Tryz.prog w = .ok (.agg (ints .u8 72 fun _ => 0).toArray) w := by kernel_rfl
theorem eqlR (F G : Nat → Int) (hF : Byts 72 F) (hG : Byts 72 G) (b : Bool) (hb : b = true ↔ ∀ i, i < 72 → F i = G i) (w : World) : (binOp .eql 27 (.agg (ints .u8 72 F).toArray) (.agg (ints .u8 72 G).toArray)).run Tryz.prog w = .ok (.bool b) w :=
  eql_ints 27 72 Tryz.underlying27 F G hF hG b hb w
theorem neqR (F G : Nat → Int) (hF : Byts 72 F) (hG : Byts 72 G) (b : Bool) (hb : b = true ↔ ∀ i, i < 72 → F i = G i) (w : World) : (binOp .neq 27 (.agg (ints .u8 72 F).toArray) (.agg (ints .u8 72 G).toArray)).run Tryz.prog w = .ok (.bool (!b)) w :=
  neq_ints 27 72 Tryz.underlying27 F G hF hG b hb w
theorem exec_eqlA {P : Program} {o : Oper} {a : Act} (t : TypeId) (x y : Operand) (u : TypeId) (ho : o.op = .binOp .eql t x y u) (A B : Array Value) (v : Value) (hx : a.eval x = .agg A) (hy : a.eval y = .agg B) (hg : P.eqGuardType P.depth t = false)
    (h : ∀ w, (binOp .eql t (.agg A) (.agg B)).run P w = .ok v w) (w : World) : (execOp a.eval o).run P w = .ok (.value v) w := by
  simp [execOp, ho, hx, hy, h, eqGuard, hg]
theorem exec_neqA {P : Program} {o : Oper} {a : Act} (t : TypeId) (x y : Operand) (u : TypeId) (ho : o.op = .binOp .neq t x y u) (A B : Array Value) (v : Value) (hx : a.eval x = .agg A) (hy : a.eval y = .agg B) (hg : P.eqGuardType P.depth t = false)
    (h : ∀ w, (binOp .neq t (.agg A) (.agg B)).run P w = .ok v w) (w : World) : (execOp a.eval o).run P w = .ok (.value v) w := by
  simp [execOp, ho, hx, hy, h, eqGuard, hg]

/-- a load of an array in a region that draws its order and only reads -/
theorem quiet_load {P : Program} {ops : Array Oper} {C : World → Prop} {Q : Act → Prop} {rest : List Oper} {op : Oper} {a : Act} (hw : Region.wanted op (yielded ops a.tmps) = true) (ty : TypeId) (x : Operand) (ho : op.op = .load ty x)
    (b o : Nat) (hx : a.eval x = .pointer (some ⟨b, o, none⟩)) (cs : List Value) (d : TypeDesc) (hc : ∀ w, C w → w.rangeAt b o cs)
    (hu : P.underlying ty = some d) (hd : d.isRow = true) (hi : (P.info? ty).map (·.size) = some cs.length) (h : wpQuiet P ops C Q rest (a.put op.dst (.agg cs.toArray))) : wpQuiet P ops C Q (op :: rest) a :=
  BigFrame.wpQuiet_want hw fun K hK => ⟨_, fun w hw' => by
    unfold Oper.quietAt execOp
    simp only [ho, hx, Instr.loadAt, Instr.sureAddr, Sem.run_bind, Sem.run_pure, Result.andThen_ok, run_loadVar_mid w b o ty cs d (hc w hw') hu hd hi]
    exact ⟨rfl, rfl⟩, hK _ h⟩
/-- what is known of one operation, in such a region -/
theorem quiet_one {P : Program} {ops : Array Oper} {C : World → Prop} {Q : Act → Prop} {rest : List Oper} {op : Oper} {a : Act} (hw : Region.wanted op (yielded ops a.tmps) = true) (v : Value) (hx : ∀ w, (execOp a.eval op).run P w = .ok (.value v) w)
    (h : wpQuiet P ops C Q rest (a.put op.dst v)) : wpQuiet P ops C Q (op :: rest) a :=
  BigFrame.wpQuiet_want hw fun K hK => ⟨v, fun w _ => by unfold Oper.quietAt; rw [hx w]; exact ⟨rfl, rfl⟩, hK _ h⟩
/-- an array lies in a block -/
structure At9 (W : World) (b : Nat) (L : List Value) : Prop where
  r : W.rangeAt b 0 L
  s : b < W.heap.size
section
variable {W W' : World} {b : Nat} {L : List Value}
theorem At9.of (h : At9 W b L) (e : W'.heap[b]? = W.heap[b]?) : At9 W' b L :=
  ⟨fun j v hv => (World.cell?_of_block (w := W) (a := ⟨b, 0 + j, none⟩) e).trans (h.r j v hv), by
    have hs := h.s
    rw [Array.getElem?_eq_getElem hs] at e
    exact (Array.getElem?_eq_some_iff.1 e).1⟩
theorem At9.next (h : At9 W b L) (e : Below W.heap.size W W') : At9 W' b L := h.of (e.block b h.s)
theorem At9.alloc (h : At9 W b L) (o : Obj) : At9 (W.alloc o) b L := h.of (Below.heap_alloc W o b h.s)
theorem Bk.at9 {k : IntKind} {n : Nat} {F : Nat → Int} (h : Bk k W b n F) : At9 W b (ints k n F) := ⟨h.range, h.lt⟩
end
end Go.Proofs.YtoimbjbdkkohcaaGreatDoor
