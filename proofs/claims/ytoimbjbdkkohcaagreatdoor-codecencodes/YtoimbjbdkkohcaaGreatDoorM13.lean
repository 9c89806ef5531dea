/-
  Texts of one family, one behind another: CoW2, RangeG, CoW3, HsW6.
-/
import Derived.Test.YtoimbjbdkkohcaaGreatDoorM12
import Derived.Test.YtoimbjbdkkohcaaGreatDoorM10
import Derived.Test.YtoimbjbdkkohcaaGreatDoorM01
import Derived.Test.YtoimbjbdkkohcaaGreatDoorM02
import Derived.OwnWalk
import Derived.OwnWalkIn

/-
  What is told of a line; a word's verdict in the mode 2; the virtual symbols of an index.
-/
namespace Go.Proofs.YtoimbjbdkkohcaaGreatDoor
open Go.RowKit Go.Shelf
open Bm (wt wtK)
open Po (El toE)
attribute [local go_sem] Oper.semAt_some

/-- a function's two results: a line in A, a verdict in C -/
structure Out2 (B A C : Nat) (w W : World) : Prop where
  a : ∃ X, Bk .u8 W A 64 X
  c : ∃ Y, Bk .i64 W C 2 Y
  below : Below B w W
theorem Out2.next {B A C : Nat} {w W W' : World} (h : Out2 B A C w W) (hB : B ≤ A) (k : Below W.heap.size W W') : Out2 B A C w W' :=
  ⟨let ⟨X, hX⟩ := h.a; ⟨X, hX.next k⟩, let ⟨Y, hY⟩ := h.c; ⟨Y, hY.next k⟩, let ⟨_, hX⟩ := h.a; h.below.trans (k.mono (by have := hX.lt; omega))⟩
theorem Out2.drew {B A C : Nat} {w W : World} (h : Out2 B A C w W) : Out2 B A C w W.drew := ⟨let ⟨X, hX⟩ := h.a; ⟨X, hX.drew⟩, let ⟨Y, hY⟩ := h.c; ⟨Y, hY.drew⟩, below_drewN h.below 1⟩
/-- both are stored -/
theorem Out2.put {B A C : Nat} {w W : World} (h : Out2 B A C w W) (hA : B ≤ A) (hC : B ≤ C) (hne : A ≠ C) (L : Nat → Int) (x y : Int) :
    Bk .u8 ((W.setCells A 0 (ints .u8 64 L)).setCells C 0 (vd2 x y)) A 64 L ∧ Bk .i64 ((W.setCells A 0 (ints .u8 64 L)).setCells C 0 (vd2 x y)) C 2 (two x y) ∧ Below B w ((W.setCells A 0 (ints .u8 64 L)).setCells C 0 (vd2 x y)) := by
  obtain ⟨X, hX⟩ := h.a
  obtain ⟨Y, hY⟩ := h.c
  exact ⟨(hX.put L).putOther hne 0 _, (hY.putOther (fun e => hne e.symm) 0 _).put (two x y), belows_put hC _ 0 (belows_put hA _ 0 h.below)⟩
theorem Out2.put1 {B A C : Nat} {w W : World} (h : Out2 B A C w W) (hA : B ≤ A) (hne : A ≠ C) (L : Nat → Int) : Out2 B A C w (W.setCells A 0 (ints .u8 64 L)) := by
  obtain ⟨X, hX⟩ := h.a
  obtain ⟨Y, hY⟩ := h.c
  exact ⟨⟨L, hX.put L⟩, ⟨Y, hY.putOther (fun e => hne e.symm) 0 _⟩, belows_put hA _ 0 h.below⟩
theorem Out2.put2 {B A C : Nat} {w W : World} (h : Out2 B A C w W) (hC : B ≤ C) (hne : A ≠ C) (x y : Int) : Out2 B A C w (W.setCells C 0 (vd2 x y)) := by
  obtain ⟨X, hX⟩ := h.a
  obtain ⟨Y, hY⟩ := h.c
  exact ⟨⟨X, hX.putOther hne 0 _⟩, ⟨two x y, hY.put (two x y)⟩, belows_put hC _ 0 h.below⟩
theorem info10v (x y : Int) : (Tryz.prog.info? 30).map (·.size) = some (vd2 x y).length := by rw [vd2_eq]; exact info10
/-- they are told -/
theorem out2_results {A C : Nat} {W : World} {L : Nat → Int} {x y : Int} (h1 : Bk .u8 W A 64 L) (h2 : Bk .i64 W C 2 (two x y)) :
    (loadVar 23 ⟨A, 0, none⟩).run Tryz.prog W = .ok (.agg (ints .u8 64 L).toArray) W ∧ (loadVar 30 ⟨C, 0, none⟩).run Tryz.prog W = .ok (.agg (vd2 x y).toArray) W :=
  ⟨run_loadVar_mid (P := Tryz.prog) W A 0 23 _ _ h1.range Tryz.underlying23 rfl (by rw [ints_len]; exact infoL), run_loadVar_mid (P := Tryz.prog) W C 0 30 _ _ h2.range Tryz.underlying30 rfl (info10v x y)⟩

/-- the line that is told -/
def tln (k : Int) (L : Nat → Int) (i : Nat) : Int := if k = 3 ∨ k = 2 then 0 else L i
theorem tln_dead (k : Int) (L : Nat → Int) (h : k = 3 ∨ k = 2) : tln k L = fun _ => 0 := by
  funext i; unfold tln; rw [if_pos h]
theorem tln_live (k : Int) (L : Nat → Int) (h : ¬ (k = 3 ∨ k = 2)) : tln k L = L := by
  funext i; unfold tln; rw [if_neg h]
theorem zeroL10 (w : World) : (zeroValue 23).run Tryz.prog w = .ok (.agg (ints .u8 64 fun _ => 0).toArray) w := by kernel_rfl
set_option maxRecDepth 100000 in
set_option maxHeartbeats 1000000 in
theorem told_any (L : Nat → Int) (x y : Int) (w : World) :
    Calls Tryz.prog 45 #[.agg (ints .u8 64 L).toArray, .agg (vd2 x y).toArray] w fun e w' => e = .returned (.tuple #[.agg (ints .u8 64 (tln x L)).toArray, .agg (vd2 x y).toArray]) ∧ Below w.heap.size w w' := by
  have hz := zeroL10
  have hz2 := zero10
  obtain ⟨T, HT⟩ : ∃ T, Hid (tln x L = T) := ⟨_, rfl⟩
  rw [HT.out]
  obtain ⟨A0, hA0⟩ : ∃ A, ints .u8 64 L = A := ⟨_, rfl⟩
  obtain ⟨Z, hZ⟩ : ∃ A, (ints .u8 64 fun _ => 0) = A := ⟨_, rfl⟩
  obtain ⟨A1, hA1⟩ : ∃ A, vd2 x y = A := ⟨_, rfl⟩
  have i0 : (Tryz.prog.info? 23).map (·.size) = some A0.length := by rw [← hA0, ints_len]; exact infoL
  have iZ : (Tryz.prog.info? 23).map (·.size) = some Z.toArray.size := by rw [← hZ]; simpa [ints_len] using infoL
  have i1 : (Tryz.prog.info? 30).map (·.size) = some A1.length := by rw [← hA1]; exact info10v x y
  have o0 : A0.toArray.all (·.oneCell') = true := by rw [← hA0]; exact ints_one .u8 64 _
  have oZ : Z.toArray.all (·.oneCell') = true := by rw [← hZ]; exact ints_one .u8 64 _
  have o1 : A1.toArray.all (·.oneCell') = true := by rw [← hA1]; exact ints_one .i64 2 _
  rw [hZ] at hz
  rw [hA0, hA1]
  go_enter Tryz.func45, Tryz.ntmps45
  go_upto_region 1 with (fail)
  obtain ⟨V, hV⟩ : ∃ V, (((w.alloc (.cells A0.toArray 23)).alloc (.cells A1.toArray 30)).alloc (.cells Z.toArray 23)).alloc (.cells #[.int .i64 0, .int .i64 0] 30) = V := ⟨_, rfl⟩
  obtain ⟨B, hB⟩ : ∃ B, w.heap.size = B := ⟨_, rfl⟩
  obtain ⟨D, hD⟩ : ∃ D, B + 1 + 1 = D := ⟨_, rfl⟩
  obtain ⟨E, hE⟩ : ∃ E, D + 1 = E := ⟨_, rfl⟩
  have HV : Bk .u8 V B 64 L ∧ Bk .i64 V (B + 1) 2 (two x y) ∧ Out2 B D E w V := by
    have h0 := Bk.new .u8 w 64 L 23
    have h1 := Bk.new .i64 (w.alloc (.cells A0.toArray 23)) 2 (two x y) 30
    have h2 := Bk.new .u8 ((w.alloc (.cells A0.toArray 23)).alloc (.cells A1.toArray 30)) 64 (fun _ => 0) 23
    have h3 := Bk.new2 (((w.alloc (.cells A0.toArray 23)).alloc (.cells A1.toArray 30)).alloc (.cells Z.toArray 23)) 0 0 30
    simp only [World.size_alloc] at h1 h2 h3
    rw [hA0] at h0
    rw [show ints .i64 2 (two x y) = A1 from hA1] at h1
    rw [hZ] at h2
    rw [← hE, ← hD, ← hB, ← hV]
    exact ⟨((h0.alloc _).alloc _).alloc _, (h1.alloc _).alloc _, ⟨_, h2.alloc _⟩, ⟨_, h3⟩, ((((Below.refl _ w).alloc (Nat.le_refl _) _).alloc (by simp) _).alloc (by simp; omega) _).alloc (by simp; omega) _⟩
  have c0 : V.cell? ⟨B + 1, 0, none⟩ = some (.int .i64 x) := HV.2.1.cell 0 (by omega)
  have RS : Hid (V.drew.rangeAt (B + 1) 0 A1 ∧ V.drew.rangeAt B 0 A0) := by
    have h1 := HV.2.1.drew.range
    have h0 := HV.1.drew.range
    rw [show ints .i64 2 (two x y) = A1 from hA1] at h1
    rw [hA0] at h0
    exact ⟨h1, h0⟩
  have HO : Hid (Out2 B D E w V) := HV.2.2
  have HZ : Hid (ints .u8 64 L = A0 ∧ (ints .u8 64 fun _ => 0) = Z ∧ vd2 x y = A1) := ⟨hA0, hZ, hA1⟩
  have j0 : (Tryz.prog.info? 23).map (·.size) = some A0.toArray.size := by simpa using i0
  have j1 : (Tryz.prog.info? 30).map (·.size) = some A1.toArray.size := by simpa using i1
  rw [hV, hB, hD]
  try rw [hE]
  clear hV HV hA0 hZ hA1
  by_cases h3 : x = 3
  · subst h3
    go_upto_region 2 with (fail)
    refine region_ends (by kernel_rfl) (fun W => W.rangeAt (B + 1) 0 A1 ∧ W.rangeAt B 0 A0 ∧ Out2 B D E w W) (fun a' w' => a' = ({ tmps := #[.agg A0.toArray, .agg A1.toArray, .pointer (some ⟨B, 0, none⟩), .pointer (some ⟨B + 1, 0, none⟩), .pointer (some ⟨D, 0, none⟩), .pointer (some ⟨E, 0, none⟩), .pointer (some ⟨B + 1, 0, none⟩), .int .i64 3, .bool true, .bool true, undef, undef, undef, .bool true, .agg Z.toArray, .agg A1.toArray, undef, undef], defers := [] } : Act) ∧ Bk .u8 w' D 64 (fun _ => 0) ∧ Bk .i64 w' E 2 (two 3 y) ∧ Below B w w') ⟨RS.out.1, RS.out.2, HO.out.drew⟩ (fun hH => ?_) ?_
    · skip
      refine take_pure 0 (v := .agg Z.toArray) rfl (by kernel_rfl) rfl (fun w' hw => by simp [execOp, go_sem, hz]) hH ?_
      show wpAnyH _ _ _ _ _ _ _ ({ tmps := #[.agg A0.toArray, .agg A1.toArray, .pointer (some ⟨B, 0, none⟩), .pointer (some ⟨B + 1, 0, none⟩), .pointer (some ⟨D, 0, none⟩), .pointer (some ⟨E, 0, none⟩), .pointer (some ⟨B + 1, 0, none⟩), .int .i64 3, .bool true, .bool true, undef, undef, undef, .bool true, .agg Z.toArray, undef, undef, undef], defers := [] } : Act) _
      refine take_if 1 (v := .agg A1.toArray) rfl (by kernel_rfl) (yieldsIf_load_mid (by rfl) _ _ rfl (B + 1) 0 rfl A1 _ (fun w' hw => hw.1) Tryz.underlying30 rfl i1) hH ?_
      show wpAnyH _ _ _ _ _ _ _ ({ tmps := #[.agg A0.toArray, .agg A1.toArray, .pointer (some ⟨B, 0, none⟩), .pointer (some ⟨B + 1, 0, none⟩), .pointer (some ⟨D, 0, none⟩), .pointer (some ⟨E, 0, none⟩), .pointer (some ⟨B + 1, 0, none⟩), .int .i64 3, .bool true, .bool true, undef, undef, undef, .bool true, .agg Z.toArray, .agg A1.toArray, undef, undef], defers := [] } : Act) _
      obtain ⟨W0, hW0⟩ : ∃ W0, V.drew = W0 := ⟨_, rfl⟩
      rw [hW0] at hH ⊢
      clear hW0
      have hP := hH.2.2.put1 (by omega) (by omega) (fun _ => 0)
      have hQ := hH.2.2.put (by omega) (by omega) (by omega) (fun _ => 0) 3 y
      rw [HZ.out.2.1] at hP hQ
      rw [HZ.out.2.2] at hQ
      refine take_one 2 rfl rfl (by kernel_rfl) ?_
      refine wp_store_mid 23 _ _ rfl D 0 Z.toArray rfl rfl (by obtain ⟨X, hX⟩ := hH.2.2.a; rw [← HZ.out.2.1]; exact hX.there .u8 _) iZ oZ ?_
      refine ⟨⟨World.rangeAt_setCells_apart hH.1 _ 0 _ (.inl (by omega)), World.rangeAt_setCells_apart hH.2.1 _ 0 _ (.inl (by omega)), hP⟩, fun hH => ?_⟩
      show wpAnyH _ _ _ _ _ _ _ ({ tmps := #[.agg A0.toArray, .agg A1.toArray, .pointer (some ⟨B, 0, none⟩), .pointer (some ⟨B + 1, 0, none⟩), .pointer (some ⟨D, 0, none⟩), .pointer (some ⟨E, 0, none⟩), .pointer (some ⟨B + 1, 0, none⟩), .int .i64 3, .bool true, .bool true, undef, undef, undef, .bool true, .agg Z.toArray, .agg A1.toArray, undef, undef], defers := [] } : Act) _
      obtain ⟨W1, hW1⟩ : ∃ W1, W0.setCells D 0 Z = W1 := ⟨_, rfl⟩
      rw [hW1] at hH hQ ⊢
      clear hW1 hP
      have hR := hH.2.2.put2 (by omega) (by omega) 3 y
      rw [HZ.out.2.2] at hR
      refine take_one 3 rfl rfl (by kernel_rfl) ?_
      refine wp_store_mid 30 _ _ rfl E 0 A1.toArray rfl rfl (by obtain ⟨X, hX⟩ := hH.2.2.c; rw [← HZ.out.2.2]; exact hX.there .i64 _) j1 o1 ?_
      refine ⟨⟨World.rangeAt_setCells_apart hH.1 _ 0 _ (.inl (by omega)), World.rangeAt_setCells_apart hH.2.1 _ 0 _ (.inl (by omega)), hR⟩, fun hH => ?_⟩
      show wpAnyH _ _ _ _ _ _ _ ({ tmps := #[.agg A0.toArray, .agg A1.toArray, .pointer (some ⟨B, 0, none⟩), .pointer (some ⟨B + 1, 0, none⟩), .pointer (some ⟨D, 0, none⟩), .pointer (some ⟨E, 0, none⟩), .pointer (some ⟨B + 1, 0, none⟩), .int .i64 3, .bool true, .bool true, undef, undef, undef, .bool true, .agg Z.toArray, .agg A1.toArray, undef, undef], defers := [] } : Act) _
      exact wpAnyH_done (by kernel_rfl) ⟨rfl, hQ⟩ _
    rintro a' W2 ⟨rfl, hQ⟩
    obtain ⟨q1, q2⟩ := out2_results hQ.1 hQ.2.1
    go_wp2
    refine bodyPost_ret (v := .tuple #[.agg (ints .u8 64 (fun _ => 0)).toArray, .agg (vd2 3 y).toArray]) ?_ rfl ⟨by rw [← HT.out, tln_dead _ _ (by omega), HZ.out.2.2], by first | exact hQ.2.2 | (rw [hB]; exact hQ.2.2)⟩
    simp [results, Tryz.f45, asAddr, q1, q2]
  · have d3 : (x == 3) = false := by simpa using h3
    by_cases h2 : x = 2
    · subst h2
      go_upto_region 2 with (fail)
      refine region_ends (by kernel_rfl) (fun W => W.rangeAt (B + 1) 0 A1 ∧ W.rangeAt B 0 A0 ∧ Out2 B D E w W) (fun a' w' => a' = ({ tmps := #[.agg A0.toArray, .agg A1.toArray, .pointer (some ⟨B, 0, none⟩), .pointer (some ⟨B + 1, 0, none⟩), .pointer (some ⟨D, 0, none⟩), .pointer (some ⟨E, 0, none⟩), .pointer (some ⟨B + 1, 0, none⟩), .int .i64 2, .bool false, .bool false, .pointer (some ⟨B + 1, 0, none⟩), .int .i64 2, .bool true, .bool true, .agg Z.toArray, .agg A1.toArray, undef, undef], defers := [] } : Act) ∧ Bk .u8 w' D 64 (fun _ => 0) ∧ Bk .i64 w' E 2 (two 2 y) ∧ Below B w w') ⟨RS.out.1, RS.out.2, HO.out.drew⟩ (fun hH => ?_) ?_
      · skip
        refine take_pure 0 (v := .agg Z.toArray) rfl (by kernel_rfl) rfl (fun w' hw => by simp [execOp, go_sem, hz]) hH ?_
        show wpAnyH _ _ _ _ _ _ _ ({ tmps := #[.agg A0.toArray, .agg A1.toArray, .pointer (some ⟨B, 0, none⟩), .pointer (some ⟨B + 1, 0, none⟩), .pointer (some ⟨D, 0, none⟩), .pointer (some ⟨E, 0, none⟩), .pointer (some ⟨B + 1, 0, none⟩), .int .i64 2, .bool false, .bool false, .pointer (some ⟨B + 1, 0, none⟩), .int .i64 2, .bool true, .bool true, .agg Z.toArray, undef, undef, undef], defers := [] } : Act) _
        refine take_if 1 (v := .agg A1.toArray) rfl (by kernel_rfl) (yieldsIf_load_mid (by rfl) _ _ rfl (B + 1) 0 rfl A1 _ (fun w' hw => hw.1) Tryz.underlying30 rfl i1) hH ?_
        show wpAnyH _ _ _ _ _ _ _ ({ tmps := #[.agg A0.toArray, .agg A1.toArray, .pointer (some ⟨B, 0, none⟩), .pointer (some ⟨B + 1, 0, none⟩), .pointer (some ⟨D, 0, none⟩), .pointer (some ⟨E, 0, none⟩), .pointer (some ⟨B + 1, 0, none⟩), .int .i64 2, .bool false, .bool false, .pointer (some ⟨B + 1, 0, none⟩), .int .i64 2, .bool true, .bool true, .agg Z.toArray, .agg A1.toArray, undef, undef], defers := [] } : Act) _
        obtain ⟨W0, hW0⟩ : ∃ W0, V.drew = W0 := ⟨_, rfl⟩
        rw [hW0] at hH ⊢
        clear hW0
        have hP := hH.2.2.put1 (by omega) (by omega) (fun _ => 0)
        have hQ := hH.2.2.put (by omega) (by omega) (by omega) (fun _ => 0) 2 y
        rw [HZ.out.2.1] at hP hQ
        rw [HZ.out.2.2] at hQ
        refine take_one 2 rfl rfl (by kernel_rfl) ?_
        refine wp_store_mid 23 _ _ rfl D 0 Z.toArray rfl rfl (by obtain ⟨X, hX⟩ := hH.2.2.a; rw [← HZ.out.2.1]; exact hX.there .u8 _) iZ oZ ?_
        refine ⟨⟨World.rangeAt_setCells_apart hH.1 _ 0 _ (.inl (by omega)), World.rangeAt_setCells_apart hH.2.1 _ 0 _ (.inl (by omega)), hP⟩, fun hH => ?_⟩
        show wpAnyH _ _ _ _ _ _ _ ({ tmps := #[.agg A0.toArray, .agg A1.toArray, .pointer (some ⟨B, 0, none⟩), .pointer (some ⟨B + 1, 0, none⟩), .pointer (some ⟨D, 0, none⟩), .pointer (some ⟨E, 0, none⟩), .pointer (some ⟨B + 1, 0, none⟩), .int .i64 2, .bool false, .bool false, .pointer (some ⟨B + 1, 0, none⟩), .int .i64 2, .bool true, .bool true, .agg Z.toArray, .agg A1.toArray, undef, undef], defers := [] } : Act) _
        obtain ⟨W1, hW1⟩ : ∃ W1, W0.setCells D 0 Z = W1 := ⟨_, rfl⟩
        rw [hW1] at hH hQ ⊢
        clear hW1 hP
        have hR := hH.2.2.put2 (by omega) (by omega) 2 y
        rw [HZ.out.2.2] at hR
        refine take_one 3 rfl rfl (by kernel_rfl) ?_
        refine wp_store_mid 30 _ _ rfl E 0 A1.toArray rfl rfl (by obtain ⟨X, hX⟩ := hH.2.2.c; rw [← HZ.out.2.2]; exact hX.there .i64 _) j1 o1 ?_
        refine ⟨⟨World.rangeAt_setCells_apart hH.1 _ 0 _ (.inl (by omega)), World.rangeAt_setCells_apart hH.2.1 _ 0 _ (.inl (by omega)), hR⟩, fun hH => ?_⟩
        show wpAnyH _ _ _ _ _ _ _ ({ tmps := #[.agg A0.toArray, .agg A1.toArray, .pointer (some ⟨B, 0, none⟩), .pointer (some ⟨B + 1, 0, none⟩), .pointer (some ⟨D, 0, none⟩), .pointer (some ⟨E, 0, none⟩), .pointer (some ⟨B + 1, 0, none⟩), .int .i64 2, .bool false, .bool false, .pointer (some ⟨B + 1, 0, none⟩), .int .i64 2, .bool true, .bool true, .agg Z.toArray, .agg A1.toArray, undef, undef], defers := [] } : Act) _
        exact wpAnyH_done (by kernel_rfl) ⟨rfl, hQ⟩ _
      rintro a' W2 ⟨rfl, hQ⟩
      obtain ⟨q1, q2⟩ := out2_results hQ.1 hQ.2.1
      go_wp2
      refine bodyPost_ret (v := .tuple #[.agg (ints .u8 64 (fun _ => 0)).toArray, .agg (vd2 2 y).toArray]) ?_ rfl ⟨by rw [← HT.out, tln_dead _ _ (by omega), HZ.out.2.2], by first | exact hQ.2.2 | (rw [hB]; exact hQ.2.2)⟩
      simp [results, Tryz.f45, asAddr, q1, q2]
    · have d2 : (x == 2) = false := by simpa using h2
      go_upto_region 3 with (fail)
      refine region_ends (by kernel_rfl) (fun W => W.rangeAt (B + 1) 0 A1 ∧ W.rangeAt B 0 A0 ∧ Out2 B D E w W) (fun a' w' => a' = ({ tmps := #[.agg A0.toArray, .agg A1.toArray, .pointer (some ⟨B, 0, none⟩), .pointer (some ⟨B + 1, 0, none⟩), .pointer (some ⟨D, 0, none⟩), .pointer (some ⟨E, 0, none⟩), .pointer (some ⟨B + 1, 0, none⟩), .int .i64 x, .bool false, .bool false, .pointer (some ⟨B + 1, 0, none⟩), .int .i64 x, .bool false, .bool false, undef, undef, .agg A0.toArray, .agg A1.toArray], defers := [] } : Act) ∧ Bk .u8 w' D 64 L ∧ Bk .i64 w' E 2 (two x y) ∧ Below B w w') ⟨RS.out.1, RS.out.2, HO.out.drew⟩ (fun hH => ?_) ?_
      · skip
        refine take_if 0 (v := .agg A0.toArray) rfl (by kernel_rfl) (yieldsIf_load_mid (by rfl) _ _ rfl B 0 rfl A0 _ (fun w' hw => hw.2.1) Tryz.underlying23 rfl i0) hH ?_
        show wpAnyH _ _ _ _ _ _ _ ({ tmps := #[.agg A0.toArray, .agg A1.toArray, .pointer (some ⟨B, 0, none⟩), .pointer (some ⟨B + 1, 0, none⟩), .pointer (some ⟨D, 0, none⟩), .pointer (some ⟨E, 0, none⟩), .pointer (some ⟨B + 1, 0, none⟩), .int .i64 x, .bool false, .bool false, .pointer (some ⟨B + 1, 0, none⟩), .int .i64 x, .bool false, .bool false, undef, undef, .agg A0.toArray, undef], defers := [] } : Act) _
        refine take_if 1 (v := .agg A1.toArray) rfl (by kernel_rfl) (yieldsIf_load_mid (by rfl) _ _ rfl (B + 1) 0 rfl A1 _ (fun w' hw => hw.1) Tryz.underlying30 rfl i1) hH ?_
        show wpAnyH _ _ _ _ _ _ _ ({ tmps := #[.agg A0.toArray, .agg A1.toArray, .pointer (some ⟨B, 0, none⟩), .pointer (some ⟨B + 1, 0, none⟩), .pointer (some ⟨D, 0, none⟩), .pointer (some ⟨E, 0, none⟩), .pointer (some ⟨B + 1, 0, none⟩), .int .i64 x, .bool false, .bool false, .pointer (some ⟨B + 1, 0, none⟩), .int .i64 x, .bool false, .bool false, undef, undef, .agg A0.toArray, .agg A1.toArray], defers := [] } : Act) _
        obtain ⟨W0, hW0⟩ : ∃ W0, V.drew = W0 := ⟨_, rfl⟩
        rw [hW0] at hH ⊢
        clear hW0
        have hP := hH.2.2.put1 (by omega) (by omega) L
        have hQ := hH.2.2.put (by omega) (by omega) (by omega) L x y
        rw [HZ.out.1] at hP hQ
        rw [HZ.out.2.2] at hQ
        refine take_one 2 rfl rfl (by kernel_rfl) ?_
        refine wp_store_mid 23 _ _ rfl D 0 A0.toArray rfl rfl (by obtain ⟨X, hX⟩ := hH.2.2.a; rw [← HZ.out.1]; exact hX.there .u8 _) j0 o0 ?_
        refine ⟨⟨World.rangeAt_setCells_apart hH.1 _ 0 _ (.inl (by omega)), World.rangeAt_setCells_apart hH.2.1 _ 0 _ (.inl (by omega)), hP⟩, fun hH => ?_⟩
        show wpAnyH _ _ _ _ _ _ _ ({ tmps := #[.agg A0.toArray, .agg A1.toArray, .pointer (some ⟨B, 0, none⟩), .pointer (some ⟨B + 1, 0, none⟩), .pointer (some ⟨D, 0, none⟩), .pointer (some ⟨E, 0, none⟩), .pointer (some ⟨B + 1, 0, none⟩), .int .i64 x, .bool false, .bool false, .pointer (some ⟨B + 1, 0, none⟩), .int .i64 x, .bool false, .bool false, undef, undef, .agg A0.toArray, .agg A1.toArray], defers := [] } : Act) _
        obtain ⟨W1, hW1⟩ : ∃ W1, W0.setCells D 0 A0 = W1 := ⟨_, rfl⟩
        rw [hW1] at hH hQ ⊢
        clear hW1 hP
        have hR := hH.2.2.put2 (by omega) (by omega) x y
        rw [HZ.out.2.2] at hR
        refine take_one 3 rfl rfl (by kernel_rfl) ?_
        refine wp_store_mid 30 _ _ rfl E 0 A1.toArray rfl rfl (by obtain ⟨X, hX⟩ := hH.2.2.c; rw [← HZ.out.2.2]; exact hX.there .i64 _) j1 o1 ?_
        refine ⟨⟨World.rangeAt_setCells_apart hH.1 _ 0 _ (.inl (by omega)), World.rangeAt_setCells_apart hH.2.1 _ 0 _ (.inl (by omega)), hR⟩, fun hH => ?_⟩
        show wpAnyH _ _ _ _ _ _ _ ({ tmps := #[.agg A0.toArray, .agg A1.toArray, .pointer (some ⟨B, 0, none⟩), .pointer (some ⟨B + 1, 0, none⟩), .pointer (some ⟨D, 0, none⟩), .pointer (some ⟨E, 0, none⟩), .pointer (some ⟨B + 1, 0, none⟩), .int .i64 x, .bool false, .bool false, .pointer (some ⟨B + 1, 0, none⟩), .int .i64 x, .bool false, .bool false, undef, undef, .agg A0.toArray, .agg A1.toArray], defers := [] } : Act) _
        exact wpAnyH_done (by kernel_rfl) ⟨rfl, hQ⟩ _
      rintro a' W2 ⟨rfl, hQ⟩
      obtain ⟨q1, q2⟩ := out2_results hQ.1 hQ.2.1
      go_wp2
      refine bodyPost_ret (v := .tuple #[.agg (ints .u8 64 L).toArray, .agg (vd2 x y).toArray]) ?_ rfl ⟨by rw [← HT.out, tln_live _ _ (by omega), HZ.out.2.2], by first | exact hQ.2.2 | (rw [hB]; exact hQ.2.2)⟩
      simp [results, Tryz.f45, asAddr, q1, q2]
--<AFTER told

set_option maxRecDepth 100000 in
set_option maxHeartbeats 1000000 in
theorem ofChips_any (s : Nat → El) (w : World) : Calls Tryz.prog 49 #[.agg (vd s)] w fun e w' => e = .returned (.int .i64 (Co.kC s)) ∧ Below w.heap.size w w' := by
  have hk : Co.kC s = if vk s = 0 then 0 else if vk s = 1 then 1 else if vk s = 2 ∧ vp s = 38 ∧ oe (vv s) = 128 then 2 else 3 := rfl
  obtain ⟨r, hr0⟩ : ∃ r, Co.kC s = r := ⟨_, rfl⟩
  rw [hr0] at hk ⊢
  clear hr0
  unfold vd
  obtain ⟨k, hk0⟩ : ∃ k, vk s = k := ⟨_, rfl⟩
  obtain ⟨p, hp⟩ : ∃ p, vp s = p := ⟨_, rfl⟩
  obtain ⟨v, hv⟩ : ∃ v, oe (vv s) = v := ⟨_, rfl⟩
  rw [hk0, hp, hv] at hk
  rw [hk0, hp, hv]
  have HK : Hid (r = if k = 0 then 0 else if k = 1 then 1 else if k = 2 ∧ p = 38 ∧ v = 128 then 2 else 3) := hk
  have HV : Hid (VdAt (w.alloc (.cells #[.int .i64 k, .int .i64 p, .int .u8 v] 98)) w.heap.size (.int .i64 k) (.int .i64 p) (.int .u8 v)) := VdAt.new _ _ _ _ _
  have HB : Hid (Below w.heap.size w (w.alloc (.cells #[.int .i64 k, .int .i64 p, .int .u8 v] 98))) := (Below.refl _ w).alloc (Nat.le_refl _) _
  clear hk hk0 hp hv
  go_enter Tryz.func49, Tryz.ntmps49
  go_upto_region 2 with (fail)
  obtain ⟨V, hV⟩ : ∃ V, w.alloc (.cells #[.int .i64 k, .int .i64 p, .int .u8 v] 98) = V := ⟨_, rfl⟩
  obtain ⟨B, hB⟩ : ∃ B, w.heap.size = B := ⟨_, rfl⟩
  rw [hV] at HV HB ⊢
  rw [hB] at HV HB ⊢
  have c0 := HV.out.c0
  have hr := HV.out.range
  have i3 := infoVd
  clear hV
  by_cases h0 : k = 0
  · subst h0
    have HR : Hid (r = 0) := HK.out
    clear HK
    go_wp2
    go_ret
    exact ⟨by rw [HR.out]; rfl, by first | exact HB.out | (rw [hB]; exact HB.out)⟩
  · have d0 : (k == 0) = false := by simpa using h0
    by_cases h1 : k = 1
    · subst h1
      have HR : Hid (r = 1) := HK.out
      clear HK
      go_wp2
      go_ret
      exact ⟨by rw [HR.out]; rfl, by first | exact HB.out | (rw [hB]; exact HB.out)⟩
    · have d1 : (k == 1) = false := by simpa using h1
      have HR : Hid (r = if k = 2 ∧ p = 38 ∧ v = 128 then 2 else 3) := by
        show _ = _
        rw [HK.out, if_neg h0, if_neg h1]
      clear HK h0 h1
      go_upto_region 6 with (fail)
      go_wp2_with (refine wpList_load_mid rfl 98 _ rfl _ 0 rfl _ _ hr Tryz.underlying98 rfl i3 ?_)
      all_goals go_ret
      all_goals refine ⟨?_, by first | exact HB.out | (rw [hB]; exact HB.out)⟩
      all_goals rw [HR.out]
      all_goals first | (rw [if_pos ⟨by assumption, by assumption, by assumption⟩]; rfl) | (rw [if_neg (by omega)]; rfl)

/-- the parity of an index, and its bytes with the poison's bit -/
def par (i : Int) : Int := ((wt (i % 8388608).toNat % 2 : Nat) : Int)
def vb (i : Int) (p : Bool) (j : Nat) : Int := if j = 0 then i % 8388608 % 256 else if j = 1 then i % 8388608 / 256 % 256 else i % 8388608 / 65536 + if p then 128 else 0
def vir (i : Int) (p : Bool) (j : Nat) : El := toE (vb i p j)
theorem par_bd (i : Int) : par i = 0 ∨ par i = 1 := by unfold par; omega
theorem vb_bd (i : Int) (p : Bool) (j : Nat) : 0 ≤ vb i p j ∧ vb i p j < 256 := by
  unfold vb
  split
  · omega
  · split
    · omega
    · split <;> omega
theorem oe_vir (i : Int) (p : Bool) (j : Nat) : oe (vir i p j) = vb i p j := ofE_toE _ (vb_bd i p j).1 (vb_bd i p j).2
theorem vir_arr (i : Int) (p : Bool) : arr 3 (vir i p) = ints .u8 3 (vb i p) := by
  unfold arr ints
  refine List.map_congr_left fun j _ => ?_
  rw [oe_vir]
theorem parity10 (i : Int) (w : World) : Calls Tryz.prog 34 #[.int .i64 i] w fun e w' => e = .returned (.int .i64 (par i)) ∧ w' = w := by
  obtain ⟨k, hk, _, h⟩ := parity_any i w
  unfold par
  rw [← hk, Int.toNat_natCast]; exact h
theorem bytes10 (i : Int) (w : World) : Calls Tryz.prog 74 #[.int .i64 i] w fun e w' => e = .returned (.agg (ints .u8 3 (vb i false)).toArray) ∧ Below w.heap.size w w' := by
  have h := bytes_any i w
  have e : ints .u8 3 (vb i false) = [.int .u8 (i % 8388608 % 256), .int .u8 (i % 8388608 / 256 % 256), .int .u8 (i % 8388608 / 65536 % 256)] := by
    have : i % 8388608 / 65536 % 256 = i % 8388608 / 65536 := by omega
    rw [this]
    show [Value.int .u8 (vb i false 0), .int .u8 (vb i false 1), .int .u8 (vb i false 2)] = _
    unfold vb
    simp
  rw [e]; exact h
theorem zeroB3 (w : World) : (zeroValue 54).run Tryz.prog w = .ok (.agg (ints .u8 3 fun _ => 0).toArray) w := by kernel_rfl
theorem infoB3 : (Tryz.prog.info? 54).map (·.size) = some 3 := by kernel_rfl
theorem or128 (x : Int) (h0 : 0 ≤ x) (h1 : x < 128) : bits .or .u8 x 128 = x + 128 := by
  obtain ⟨n, rfl⟩ := Int.eq_ofNat_of_zero_le h0
  have h := u8_or_nat n 128 (by omega) (by omega)
  rw [show ((128 : Nat) : Int) = 128 from rfl] at h
  rw [h, Nat.or_comm]
  have : ∀ n < 128, 128 ||| n = n + 128 := by decide +kernel
  rw [this n (by omega)]; rfl
set_option maxRecDepth 100000 in
set_option maxHeartbeats 1000000 in
theorem virtualOf_any (i : Int) (p : Bool) (w : World) : Calls Tryz.prog 40 #[.int .i64 i, .bool p] w fun e w' => e = .returned (.agg (arr 3 (vir i p)).toArray) ∧ Below w.heap.size w w' := by
  rw [vir_arr]
  have hz := zeroB3
  have cB : Hid (∀ W : World, Calls Tryz.prog 74 #[.int .i64 i] W fun e w' => e = .returned (.agg (ints .u8 3 (vb i false)).toArray) ∧ Below W.heap.size W w') := bytes10 i
  obtain ⟨Z, hZ⟩ : ∃ A, (ints .u8 3 fun _ => 0) = A := ⟨_, rfl⟩
  obtain ⟨A0, hA0⟩ : ∃ A, ints .u8 3 (vb i false) = A := ⟨_, rfl⟩
  have i0 : (Tryz.prog.info? 54).map (·.size) = some A0.toArray.size := by rw [← hA0]; simpa [ints_len] using infoB3
  have o0 : A0.toArray.all (·.oneCell') = true := by rw [← hA0]; exact ints_one .u8 3 _
  rw [hZ] at hz
  rw [hA0] at cB
  go_enter Tryz.func40, Tryz.ntmps40
  go_wp2_with fail
  refine (cB.out _).mono ?_
  rintro e V1 ⟨rfl, b1⟩
  have H1 : Hid (Bk .u8 V1 w.heap.size 3 (fun _ => 0) ∧ Below w.heap.size w V1) := by
    have h := Bk.new .u8 w 3 (fun _ => 0) 54
    rw [hZ] at h
    have b0 := (Below.refl _ w).alloc (Nat.le_refl _) (.cells Z.toArray 54)
    exact ⟨h.next b1, b0.trans (b1.mono (by simp))⟩
  have ht : (V1.alloc (.cells Z.toArray 54)).there V1.heap.size 0 A0.toArray.size := by
    rw [← hZ, ← hA0]; exact (Bk.new .u8 V1 3 (fun _ => 0) 54).there .u8 _
  go_upto_region 2 with (refine wpList_store_mid rfl 54 _ _ rfl _ 0 A0.toArray rfl rfl ht i0 o0 ?_)
  obtain ⟨B, hB⟩ : ∃ B, w.heap.size = B := ⟨_, rfl⟩
  obtain ⟨D, hD⟩ : ∃ D, V1.heap.size = D := ⟨_, rfl⟩
  obtain ⟨V2, hV2⟩ : ∃ V2, (V1.alloc (.cells Z.toArray 54)).setCells V1.heap.size 0 A0 = V2 := ⟨_, rfl⟩
  have H2 : Bk .u8 V2 D 3 (vb i false) ∧ Bk .u8 V2 B 3 (fun _ => 0) ∧ Below B w V2 ∧ B < D := by
    have h := (Bk.new .u8 V1 3 (fun _ => 0) 54).put (vb i false)
    rw [hZ, hA0, hV2, hD] at h
    have hl := H1.out.1.lt
    have h1 := (H1.out.1.alloc (.cells Z.toArray 54)).putOther (c := V1.heap.size) (by omega) 0 A0
    have h2 := belows_put (B := w.heap.size) (b := V1.heap.size) (by omega) A0 0 (H1.out.2.alloc (by omega) (.cells Z.toArray 54))
    rw [hV2] at h1 h2
    rw [hB] at h1 h2 hl
    exact ⟨h, h1, h2, by omega⟩
  rw [hV2, hD, hB]
  clear hV2 hD H1 ht b1 V1
  obtain ⟨h1, h2, h3, hBD⟩ := H2
  cases p
  · have hr := h1.range
    have ht := h2.there .u8 (vb i false)
    rw [hA0] at hr ht
    have HL : Hid (ints .u8 3 (vb i false) = A0 ∧ Below B w V2) := ⟨hA0, h3⟩
    have i1 : (Tryz.prog.info? 54).map (·.size) = some A0.length := by simpa using i0
    clear h1 h2 h3 hA0
    go_wp2_with (first | refine wpList_load_mid rfl 54 _ rfl _ 0 rfl A0 _ hr Tryz.underlying54 rfl i1 ?_ | refine wpList_store_mid rfl 54 _ _ rfl _ 0 A0.toArray rfl rfl ht i0 o0 ?_)
    have hs : (V2.setCells B 0 A0).rangeAt B 0 A0 := World.rangeAt_setCells_same V2 _ 0 A0 (by simpa using ht)
    have hld := run_loadVar_mid (P := Tryz.prog) (V2.setCells B 0 A0) B 0 54 A0 _ hs Tryz.underlying54 rfl i1
    refine bodyPost_ret (v := .agg A0.toArray) ?_ rfl ⟨by rw [HL.out.1], by first | exact belows_put (Nat.le_refl _) A0 0 HL.out.2 | (rw [hB]; exact belows_put (Nat.le_refl _) A0 0 HL.out.2)⟩
    simp [results, Tryz.f40, Act.put, asAddr, hld]
  · have c2 := h1.cell 2 (by omega)
    have f2 := h1.free 2
    have ho := or128 (vb i false 2) (by unfold vb; simp; omega) (by unfold vb; simp; omega)
    have hx := (h1.set 2 (vb i false 2 + 128)).congr (G := vb i true) fun j hj => by
      rcases (show j = 0 ∨ j = 1 ∨ j = 2 by omega) with rfl | rfl | rfl <;> simp [vb]
    have hy := h2.other (c := D) (by omega) 2 (.int .u8 (vb i false 2 + 128))
    have hz2 := h3.setCell (p := ⟨D, 2, none⟩) (by simp; omega) (.int .u8 (vb i false 2 + 128))
    obtain ⟨b, hb⟩ : ∃ b, vb i false 2 = b := ⟨_, rfl⟩
    rw [hb] at c2 ho hx hy hz2
    have hr := hx.range
    have ht := hy.there .u8 (vb i true)
    obtain ⟨A1, hA1⟩ : ∃ A, ints .u8 3 (vb i true) = A := ⟨_, rfl⟩
    have i1 : (Tryz.prog.info? 54).map (·.size) = some A1.length := by rw [← hA1, ints_len]; exact infoB3
    have i2 : (Tryz.prog.info? 54).map (·.size) = some A1.toArray.size := by simpa using i1
    have o1 : A1.toArray.all (·.oneCell') = true := by rw [← hA1]; exact ints_one .u8 3 _
    rw [hA1] at hr ht
    have HL : Hid (ints .u8 3 (vb i true) = A1 ∧ Below B w (V2.setCell ⟨D, 2, none⟩ (.int .u8 (b + 128)))) := ⟨hA1, hz2⟩
    have HR : Hid ((V2.setCell ⟨D, 2, none⟩ (.int .u8 (b + 128))).rangeAt D 0 A1 ∧ (V2.setCell ⟨D, 2, none⟩ (.int .u8 (b + 128))).there B 0 A1.toArray.size) := ⟨hr, ht⟩
    clear h1 h2 h3 hA1 hx hy hz2 hb hr ht hA0 o0 i0
    go_wp2_with (first | refine wpList_load_mid rfl 54 _ rfl _ 0 rfl A1 _ HR.out.1 Tryz.underlying54 rfl i1 ?_ | refine wpList_store_mid rfl 54 _ _ rfl _ 0 A1.toArray rfl rfl HR.out.2 i2 o1 ?_)
    obtain ⟨V3, hV3⟩ : ∃ V3, V2.setCell ⟨D, 2, none⟩ (.int .u8 (b + 128)) = V3 := ⟨_, rfl⟩
    rw [hV3] at HR HL ⊢
    have hs : (V3.setCells B 0 A1).rangeAt B 0 A1 := World.rangeAt_setCells_same V3 _ 0 A1 (by simpa using HR.out.2)
    have hld := run_loadVar_mid (P := Tryz.prog) (V3.setCells B 0 A1) B 0 54 A1 _ hs Tryz.underlying54 rfl i1
    refine bodyPost_ret (v := .agg A1.toArray) ?_ rfl ⟨by rw [HL.out.1], by first | exact belows_put (Nat.le_refl _) A1 0 HL.out.2 | (rw [hB]; exact belows_put (Nat.le_refl _) A1 0 HL.out.2)⟩
    simp [results, Tryz.f40, Act.put, asAddr, hld]
end Go.Proofs.YtoimbjbdkkohcaaGreatDoor

/-
  A range over a function that hands on what it laid anew (a slice of bytes).
-/
namespace Go.Proofs.YtoimbjbdkkohcaaGreatDoor
open Go.RowKit

/-- AN ITERATOR's CONTRACT, where what it hands on lies in new memory: for each number x below N, rising, some 'enc x v' with 'Ok x v', as far as it is asked; it reads the blocks T between two rounds. -/
def SeqG (P : Program) (g : Nat) (lb : Array Value) (enc : Nat → Value → Array Value) (N : Nat) (Ok : Nat → Value → World → Prop) (T : Nat → Prop) (w : World) : Prop :=
  ∀ (l : Nat) (M : Nat → Prop) (J Jx : Nat → World → Prop) (W : World), Below w.heap.size w W → (∀ b, M b → b < W.heap.size ∧ ¬ T b) → Abide W.heap.size J → Abide W.heap.size Jx →
    (∀ x v W1, x < N → Ok x v W1 → J x W1 → YieldAt Fence.wide 8 P l (enc x v) W1 fun e W' => (e = .returned (.bool true) ∧ J (x + 1) W' ∧ Keep M W1 W') ∨ (e = .returned (.bool false) ∧ Jx x W' ∧ Keep M W1 W')) →
    J 0 W → CallsIn Fence.wide 9 P g (#[.func (.yield l) #[] #[]] ++ lb) W fun e W' => (∃ v, e = .returned v) ∧ (J N W' ∨ ∃ x, x < N ∧ Jx x W')

theorem rangeG {P : Program} {g : Operand} {ps : Array Tmp} {assign body : Code} {Q : Exit → Act → World → Prop} {a : Act} {w : World} {n : Nat}
    {gf : Nat} {lb : Array Value} (hg : a.eval g = .func (.func gf) #[] lb) (eg : ∀ args w, (callFunc gf args).run P w = .ok (.enter gf args) w)
    {enc : Nat → Value → Array Value} {N : Nat} {Ok : Nat → Value → World → Prop} {T : Nat → Prop} (hseq : SeqG P gf lb enc N Ok T w) (hps : ∀ x v, (enc x v).size = ps.size) (hOk : ∀ x v W W', Ok x v W → Stay w.heap.size W W' → Ok x v W')
    (M : Nat → Prop) (hM : ∀ b, M b → b < w.heap.size ∧ ¬ T b) (hT : ∀ b, T b → b < w.heap.size) (I : Nat → World → Prop) (Ix : Code → Nat → World → Prop) (hI : Abide w.heap.size I) (hIx : ∀ c, Abide w.heap.size (Ix c)) (h0 : I 0 w)
    (hround : ∀ (l x : Nat) (v : Value) (W W2 : World), x < N → Ok x v W2 → I x W2 →
      assign.wpIn (Fence.wide.inRound l) 8 P (Exit.then (fun a' W' => W' = W ∧ body.wpIn (Fence.wide.inRound l) 8 P (postC M I Ix x W2) a' W2) (fun _ _ _ => False)) { tmps := (ps.zip (enc x v)).foldl (fun t (p, v) => t.setIfInBounds p v) a.tmps, defers := [] } W)
    (hdone : ∀ (D : Nat) (W : World), w.heap.size ≤ D → I N W → W.heap[D]? = some (.deferred (some [])) → Q .normal { a with defers := { target := .collected D, args := #[] } :: a.defers } W)
    (hstop : ∀ (D : Nat) (c : Code) (x : Nat) (W : World), w.heap.size ≤ D → x < N → Ix c x W → W.heap[D]? = some (.deferred (some [])) → c.wpIn Fence.wide n P Q { a with defers := { target := .collected D, args := #[] } :: a.defers } W) :
    (Code.rangeFunc g ps assign body).wpIn Fence.wide n P Q a w := by
  refine wpIn_rangeFunc fun fn hfn => ?_
  -- the record, by its state and what is pending; where the iterator begins
  obtain ⟨R, hR⟩ : ∃ R : LoopState → Option Code → Obj, R = fun st pe => Obj.loop { state := st, pending := pe, fn, tmps := a.tmps, params := ps, assign, body, defers := w.heap.size } := ⟨_, rfl⟩
  have hcR : ∀ st pe, (R st pe).isCells = false := fun st pe => by rw [hR]; rfl
  have r1 : (w.alloc (.deferred (some []))).heap.size = w.heap.size + 1 := by simp
  obtain ⟨V, hV⟩ : ∃ V, V = (w.alloc (.deferred (some []))).alloc (R .ready none) := ⟨_, rfl⟩
  have sV : V.heap.size = w.heap.size + 2 := by rw [hV]; simp
  have st0 : Stay w.heap.size w V := by rw [hV]; exact (Stay.alloc _ w _ (Nat.le_refl _)).trans (Stay.alloc _ _ _ (by rw [r1]; omega))
  have bV : Below w.heap.size w V := below_stay (Below.refl _ _) st0 (Nat.le_refl _)
  have lV : V.heap[w.heap.size + 1]? = some (R .ready none) := by rw [hV, ← r1]; exact World.alloc_heap_new _ _
  have dV : V.heap[w.heap.size]? = some (.deferred (some [])) := by rw [hV]; exact (Below.heap_alloc _ _ _ (by rw [r1]; omega)).trans (World.alloc_heap_new w _)
  refine ⟨w.heap.size + 1, [{ target := .collected w.heap.size, args := #[] }], V, { target := .fn (.func gf) lb, args := #[.func (.yield (w.heap.size + 1)) #[] #[]] }, V, gf,
    #[.func (.yield (w.heap.size + 1)) #[] #[]] ++ lb, V, ?_, ?_, fun _ _ => trivial, ?_, (fun h => by cases h), ?_⟩
  · rw [hV, hR]; exact run_enterLoop_outer _ _ _ _ _
  · simp only [resolve, hg]; simp [go_sem]
  · simp [invoke, go_sem, eg]
  -- the books: the record and the block for deferred calls, beside the caller's word
  have books : ∀ (X : Nat → World → Prop) (o : Obj), o.isCells = false → Abide w.heap.size X → Abide V.heap.size (fun x W => X x W ∧ W.heap[w.heap.size + 1]? = some o ∧ W.heap[w.heap.size]? = some (.deferred (some []))) := by
    rintro X o _ hX x A B ⟨hx, hl, hd⟩ hs
    exact ⟨hX x A B hx (hs.mono (by omega)), (hs.low _ (by omega)).trans hl, (hs.low _ (by omega)).trans hd⟩
  have hcall := hseq (w.heap.size + 1) (fun b => M b ∨ b = w.heap.size + 1)
    (fun x W => I x W ∧ W.heap[w.heap.size + 1]? = some (R .ready none) ∧ W.heap[w.heap.size]? = some (.deferred (some [])))
    (fun x W => ∃ c, Ix c x W ∧ W.heap[w.heap.size + 1]? = some (R .done (some c)) ∧ W.heap[w.heap.size]? = some (.deferred (some [])))
    V bV (by rintro b (hb | rfl); · exact ⟨by have := (hM b hb).1; omega, (hM b hb).2⟩
             · exact ⟨by omega, fun h => by have := hT _ h; omega⟩)
    (books I _ (hcR _ _) hI)
    (by rintro x A B ⟨c, hc⟩ hs; exact ⟨c, books (Ix c) _ (hcR _ _) (hIx c) x A B hc hs⟩)
    (by
      rintro x v W hx hp ⟨hi, hl, hd⟩
      have hlt : w.heap.size + 1 < W.heap.size := (Array.getElem?_eq_some_iff.1 hl).1
      have hl' := hl
      rw [hR] at hl'
      refine ⟨fn, _, assign, body, run_yield (P := P) (args := enc x v) hl' (hps x v), roundIn_of_wpIn hfn ?_⟩
      -- the record is busy
      obtain ⟨W2, hW2⟩ : ∃ W2, W2 = W.putObj (w.heap.size + 1) (R .busy none) := ⟨_, rfl⟩
      have sW2 : Stay w.heap.size W W2 := by rw [hW2]; exact Stay.putObj _ hl (hcR _ _) (by omega)
      have kW2 : Keep (fun b => M b ∨ b = w.heap.size + 1) W W2 := by rw [hW2]; exact (Keep.refl _ _).putObj (.inr rfl) _
      have lW2 : W2.heap[w.heap.size + 1]? = some (R .busy none) := by rw [hW2]; exact World.putObj_heap_same hlt
      have dW2 : W2.heap[w.heap.size]? = some (.deferred (some [])) := by rw [hW2]; exact (World.putObj_heap_other (by omega)).trans hd
      have e2 : W.putObj (w.heap.size + 1) (.loop { state := .busy, pending := none, fn, tmps := a.tmps, params := ps, assign, body, defers := w.heap.size }) = W2 := by rw [hW2, hR]
      -- a round's end
      have fin : ∀ (j : Option Code) (W3 : World), Keep M W2 W3 → ∃ W4, (Instr.endRound (w.heap.size + 1) j).run P W3 = .ok (.bool j.isNone) W4 ∧ Stay w.heap.size W3 W4 ∧ Keep (fun b => M b ∨ b = w.heap.size + 1) W W4 ∧
          W4.heap[w.heap.size + 1]? = some (R (if j.isNone then .ready else .done) j) ∧ W4.heap[w.heap.size]? = some (.deferred (some [])) := by
        intro j W3 k3
        have h2 : w.heap.size + 1 < W2.heap.size := (Array.getElem?_eq_some_iff.1 lW2).1
        have l3 : W3.heap[w.heap.size + 1]? = some (R .busy none) := (k3.2 _ h2 (fun h => by have := (hM _ h).1; omega)).trans lW2
        have d3 : W3.heap[w.heap.size]? = some (.deferred (some [])) := (k3.2 _ (by omega) (fun h => by have := (hM _ h).1; omega)).trans dW2
        have l3' := l3
        rw [hR] at l3'
        refine ⟨_, run_endRound (P := P) j l3', Stay.putObj _ l3 (hcR _ _) (by omega), (kW2.trans (k3.mono fun _ h => .inl h)).putObj (.inr rfl) _, ?_, (World.putObj_heap_other (by omega)).trans d3⟩
        rw [World.putObj_heap_same (Array.getElem?_eq_some_iff.1 l3).1, hR]
      refine wpIn_mono (hround (w.heap.size + 1) x v W W2 hx (hOk x v _ _ hp sW2) (hI x _ _ hi sW2)) ?_
      rintro e1 a' W1 he1
      have hn : e1 = .normal ∧ W1 = W ∧ body.wpIn (Fence.wide.inRound (w.heap.size + 1)) 8 P (postC M I Ix x W2) a' W2 := by
        cases e1 with
        | normal => exact ⟨rfl, he1.1, he1.2⟩
        | _ => exact he1.elim
      obtain ⟨rfl, rfl, hb⟩ := hn
      refine ⟨W2, ?_, wpIn_mono hb ?_⟩
      · rw [← e2]; exact run_beginRound hl' rfl
      rintro e a3 W3 hpost
      cases e with
      | normal =>
        obtain ⟨W4, hr, s4, k4, l4, d4⟩ := fin none W3 hpost.1
        exact ⟨_, _, hr, .inl ⟨rfl, ⟨hI _ _ _ hpost.2 s4, l4, d4⟩, k4⟩⟩
      | ret =>
        obtain ⟨W4, hr, s4, k4, l4, d4⟩ := fin (some .ret) W3 hpost.1
        exact ⟨_, _, hr, .inr ⟨rfl, ⟨_, hIx _ _ _ _ hpost.2 s4, l4, d4⟩, k4⟩⟩
      | exit id =>
        obtain ⟨W4, hr, s4, k4, l4, d4⟩ := fin (some (.exit id)) W3 hpost.1
        exact ⟨_, _, hr, .inr ⟨rfl, ⟨_, hIx _ _ _ _ hpost.2 s4, l4, d4⟩, k4⟩⟩
      | goto t =>
        obtain ⟨W4, hr, s4, k4, l4, d4⟩ := fin (some (.goto t)) W3 hpost.1
        exact ⟨_, _, hr, .inr ⟨rfl, ⟨_, hIx _ _ _ _ hpost.2 s4, l4, d4⟩, k4⟩⟩
      | panic ch => exact hpost.elim
      | outgrown => exact hpost.elim)
    ⟨hI _ _ _ h0 st0, lV, dV⟩
  refine (callsIn_wide.2 (callsIn_wide.1 hcall)).mono ?_
  -- behind the iterator
  rintro e W ⟨⟨v, rfl⟩, (⟨hi, hl, hd⟩ | ⟨x, hx, c, hi, hl, hd⟩)⟩
  · have hl' := hl
    rw [hR] at hl'
    exact ⟨none, _, run_endLoop (P := P) hl' (by simp), hdone _ _ (Nat.le_refl _) (hI _ _ _ hi (Stay.putObj _ hl (hcR _ _) (by omega))) ((World.putObj_heap_other (by omega)).trans hd)⟩
  · have hl' := hl
    rw [hR] at hl'
    exact ⟨some c, _, run_endLoop (P := P) hl' (by simp), hstop _ c x _ (Nat.le_refl _) hx (hIx _ _ _ _ hi (Stay.putObj _ hl (hcR _ _) (by omega))) ((World.putObj_heap_other (by omega)).trans hd)⟩

end Go.Proofs.YtoimbjbdkkohcaaGreatDoor

/-
  The words of raw bytes, one by one.
-/
namespace Go.Proofs.YtoimbjbdkkohcaaGreatDoor
open Go.RowKit Go.Shelf
attribute [local go_sem] Oper.semAt_some

/-- what is handed on with the number x: a slice in memory that holds the word x -/
def WordAt (n : Nat) (F : Nat → Int) (x : Nat) (v : Value) (W : World) : Prop := ∃ g, v = .slice (some ⟨g, 0, none⟩) n n ∧ Bk .u8 W g n (fun j => F (n * x + j))
theorem WordAt.stay {n : Nat} {F : Nat → Int} {B x : Nat} {v : Value} {W W' : World} (h : WordAt n F x v W) (k : Stay B W W') : WordAt n F x v W' := by
  obtain ⟨g, hv, hg⟩ := h
  exact ⟨g, hv, hg.stay k⟩
theorem wordsOf_any (m : Int) (F : Nat → Int) (w : World) :
    Calls Tryz.prog 41 #[.int .i64 m, .agg (ints .u8 72 F).toArray] w fun e w' => e = .returned (.func (.func 75) #[] #[.pointer (some ⟨w.heap.size, 0, none⟩), .pointer (some ⟨w.heap.size + 1, 0, none⟩)]) ∧
      w' = (w.alloc (.cells #[.int .i64 m] 3)).alloc (.cells (ints .u8 72 F).toArray 27) := by
  obtain ⟨A0, hA0⟩ : ∃ A, (ints .u8 72 F).toArray = A := ⟨_, rfl⟩
  rw [hA0]
  go_enter Tryz.func41, Tryz.ntmps41
  go_wp2
  go_ret
  exact ⟨rfl, rfl⟩

set_option maxRecDepth 100000 in
set_option maxHeartbeats 2000000 in
theorem wordsOf_seq (m : Int) (n k : Nat) (hm : Md m (n : Int) (k : Int)) (hk8 : k ≤ 8) (mb xb : Nat) (F : Nat → Int) (w : World) (hmb : Box w mb (.int .i64 m)) (hb : Bk .u8 w xb 72 F)
    (cWd : ∀ (x : Nat), x < k → ∀ W : World, Calls Tryz.prog 76 #[.agg (ints .u8 72 F).toArray, .int .i64 m, .int .i64 (x : Int)] W fun e w' => ∃ g, e = .returned (.slice (some ⟨g, 0, none⟩) n n) ∧ W.heap.size ≤ g ∧ Bk .u8 w' g n (fun j => F (n * x + j)) ∧ Below W.heap.size W w') :
    SeqG Tryz.prog 75 #[.pointer (some ⟨mb, 0, none⟩), .pointer (some ⟨xb, 0, none⟩)] (fun x v => #[.int .i64 (x : Int), v]) k (WordAt n F) (fun b => b = mb ∨ b = xb) w := by
  intro l M J Jx W hW hM hJ hJx hY h0
  have hbW : Bk .u8 W xb 72 F := hb.below hW hb.lt
  have hmW : Box W mb (.int .i64 m) := hmb.below hW hmb.lt
  have HM : Hid (¬ M xb ∧ ¬ M mb) := ⟨fun h => (hM xb h).2 (.inr rfl), fun h => (hM mb h).2 (.inl rfl)⟩
  have HJ : Hid (∀ (x : Nat) (A A' : World), W.heap.size ≤ A.heap.size → J x A → Below A.heap.size A A' → J x A') := fun x A A' hl h k => hJ x A A' h ((stay_below k).mono hl)
  have cN : Hid (∀ W : World, Calls Tryz.prog 68 #[.int .i64 m] W fun e w' => e = .returned (.int .i64 (k : Int)) ∧ w' = W) := countWords_any hm
  have i0 : (Tryz.prog.info? 27).map (·.size) = some (ints .u8 72 F).length := by rw [ints_len]; exact infoR
  have cW : Hid (∀ (x : Nat), x < k → ∀ W : World, Calls Tryz.prog 76 #[.agg (ints .u8 72 F).toArray, .int .i64 m, .int .i64 (x : Int)] W fun e w' => ∃ g, e = .returned (.slice (some ⟨g, 0, none⟩) n n) ∧ W.heap.size ≤ g ∧ Bk .u8 w' g n (fun j => F (n * x + j)) ∧ Below W.heap.size W w') := cWd
  obtain ⟨L, hL⟩ : ∃ A, ints .u8 72 F = A := ⟨_, rfl⟩
  rw [hL] at cW i0
  have HL : Hid (ints .u8 72 F = L) := hL
  have HB : Hid (Bk .u8 W xb 72 F ∧ Box W mb (.int .i64 m)) := ⟨hbW, hmW⟩
  have HY : Hid (∀ (x : Nat) (v : Value) (W1 : World), x < k → WordAt n F x v W1 → J x W1 → YieldAt Fence.wide 8 Tryz.prog l #[.int .i64 (x : Int), v] W1 fun e W' => (e = .returned (.bool true) ∧ J (x + 1) W' ∧ Keep M W1 W') ∨ (e = .returned (.bool false) ∧ Jx x W' ∧ Keep M W1 W')) := hY
  have c0 := hmW.1
  clear hJ hJx hY hM hW hb hL hbW hmb hmW cWd hm
  refine callsIn_of_wp Tryz.func75 rfl trivial ?_ rfl
  simp only [Tryz.ntmps75, List.size_toArray, List.length_cons, List.length_nil, Nat.reduceAdd, Nat.reduceSub, Array.replicate_succ, Array.replicate_zero, List.push_toArray, List.append_toArray, List.nil_append, List.cons_append]
  gi_wp2_with (refine ⟨trivial, ?_⟩; gi_at_call 68; refine (callsIn_wide.2 (cN.out _)).mono ?_; rintro e w' ⟨rfl, hw2⟩; rw [hw2]; clear hw2 w')
  clear c0
  gi_loopw [7] (fun i wr => ∃ x : Nat, x ≤ k ∧ i = .int .i64 (x : Int) ∧ J x wr ∧ Keep M W wr) (fun i _ => (k - (intOf i).toNat))
  case atStart => exact ⟨0, by omega, rfl, h0, Keep.refl _ _⟩
  case round =>
    obtain ⟨x, hx, rfl, hJs, hK⟩ := hrel
    by_cases hlt : x < k
    · have hr := (HB.out.1.keep hK HM.out.1).range
      have c0 := (hK.box HB.out.2 HM.out.2).1
      rw [HL.out] at hr
      have HX : Hid (∀ W : World, Calls Tryz.prog 76 #[.agg L.toArray, .int .i64 m, .int .i64 (x : Int)] W fun e w' => ∃ g, e = .returned (.slice (some ⟨g, 0, none⟩) n n) ∧ W.heap.size ≤ g ∧ Bk .u8 w' g n (fun j => F (n * x + j)) ∧ Below W.heap.size W w') := cW.out x hlt
      have hlk : (x : Int) < (k : Int) := by omega
      clear cW
      gi_wp2_with (first | (refine load_wide rfl 27 _ rfl xb 0 rfl L _ hr Tryz.underlying27 rfl i0 ?_) | (refine ⟨trivial, ?_⟩; gi_at_call 76; refine (callsIn_wide.2 (HX.out _)).mono ?_; rintro e W2 ⟨g, rfl, hg, hbk, b2⟩; obtain ⟨fn, tmps, assign, body, hyl, hR⟩ := HY.out x _ W2 hlt ⟨g, rfl, hbk⟩ (HJ.out x wr W2 hK.1 hJs b2)) | (refine hR.mono ?_; rintro e W3 hE; obtain ⟨r, rfl, hE2⟩ := yields hE))
      · rcases hE2.out with ⟨rfl, _⟩ | ⟨_, hJx3⟩
        · rename_i hr; cases hr
        · refine bodyPost_ret (results_none rfl _ _ _) rfl ?_
          exact ⟨⟨_, rfl⟩, .inr ⟨x, hlt, hJx3.1⟩⟩
      · rcases hE2.out with ⟨_, hJ3, hK3⟩ | ⟨rfl, _⟩
        · refine ⟨⟨x + 1, by omega, by go_num, hJ3, hK.trans ((Keep.below b2 (Nat.le_refl _)).trans hK3)⟩, ?_⟩
          simp [intOf]; omega
        · rename_i hr; cases hr
    · obtain rfl : x = k := by omega
      gi_wp2
      go_end0
      exact ⟨⟨_, rfl⟩, .inl hJs⟩
end Go.Proofs.YtoimbjbdkkohcaaGreatDoor

/-
  The first so many words with so many ones.
-/
namespace Go.Proofs.YtoimbjbdkkohcaaGreatDoor
open Go.RowKit Go.Shelf
open Bm (wt wtK cntW)
open Hm (col onesOf nOf idx kd pl xs ap syn)
attribute [local go_sem] Oper.semAt_some

/-- the words below x with k ones -/
def chs (k : Int) : Nat → List Nat
  | 0 => []
  | x + 1 => if (wt x : Int) = k then chs k x ++ [x] else chs k x
theorem chs_yes (k : Int) (x : Nat) (h : (wt x : Int) = k) : chs k (x + 1) = chs k x ++ [x] := by simp [chs, h]
theorem chs_no (k : Int) (x : Nat) (h : ¬ (wt x : Int) = k) : chs k (x + 1) = chs k x := by simp [chs, h]
theorem chs_len (k : Int) (x : Nat) : (chs k x).length = cntW k x := by
  induction x with
  | zero => rfl
  | succ x ih =>
    by_cases h : (wt x : Int) = k
    · rw [chs_yes _ _ h, Bm.cntW_yes _ _ h]; simp [ih]
    · rw [chs_no _ _ h, Bm.cntW_no _ _ h]; exact ih
theorem chs_take (k : Int) (x y : Nat) (h : x ≤ y) : chs k x = (chs k y).take (cntW k x) := by
  induction y with
  | zero =>
    obtain rfl : x = 0 := by omega
    rfl
  | succ y ih =>
    by_cases e : x = y + 1
    · subst e
      rw [← chs_len, List.take_length]
    · have h1 := ih (by omega)
      by_cases hw : (wt y : Int) = k
      · have hle : cntW k x ≤ (chs k y).length := by rw [chs_len]; exact Bm.cntW_mono k x y (by omega)
        rw [chs_yes _ _ hw, List.take_append_of_le_length hle]; exact h1
      · rw [chs_no _ _ hw]; exact h1
/-- the first n of them -/
def firsts (n : Nat) (k : Int) : List Nat := (chs k 256).take n
def bytesV (l : List Nat) : List Value := l.map fun x : Nat => Value.int .u8 (x : Int)
theorem bytesV_len (l : List Nat) : (bytesV l).length = l.length := by simp [bytesV]
theorem bytesV_snoc (l : List Nat) (x : Nat) : bytesV l ++ [.int .u8 (x : Int)] = bytesV (l ++ [x]) := by simp [bytesV]

theorem owns_of {W W' : World} {base e size : Nat} {g n cap : Nat} {xs : List Value} (h : W.ownsRow base e size (.slice (some ⟨g, 0, none⟩) n cap) n xs) (k : W'.heap[g]? = W.heap[g]?) : W'.ownsRow base e size (.slice (some ⟨g, 0, none⟩) n cap) n xs := by
  rcases h with ⟨h1, ⟨h2, _⟩ | ⟨g', cap', cur, h2, h3, h4, h5⟩⟩
  · cases h2
  · simp only [Value.slice.injEq, Option.some.injEq, Addr.mk.injEq, and_true, true_and] at h2
    obtain ⟨rfl, rfl⟩ := h2
    exact ⟨h1, .inr ⟨_, _, cur, rfl, h3, k.trans h4, h5⟩⟩
theorem owns_stay {B : Nat} {W W' : World} {base e size : Nat} {g n cap : Nat} {xs : List Value} (h : W.ownsRow base e size (.slice (some ⟨g, 0, none⟩) n cap) n xs) (k : Stay B W W') : W'.ownsRow base e size (.slice (some ⟨g, 0, none⟩) n cap) n xs := by
  have h' := h
  rcases h with ⟨h1, ⟨h2, _⟩ | ⟨g', cap', cur, h2, h3, h4, h5⟩⟩
  · cases h2
  · simp only [Value.slice.injEq, Option.some.injEq, Addr.mk.injEq, and_true, true_and] at h2
    obtain ⟨rfl, rfl⟩ := h2
    exact owns_of h' ((k.cells _ _ h4 rfl).trans h4.symm)
theorem below_grown {B : Nat} {w W W' : World} {row : Option Nat} (h : Below B w W) (k : W.grownBy W' row) (hr : ∀ g, row = some g → B ≤ g) (hB : B ≤ W.heap.size) : Below B w W' :=
  ⟨k.os.trans h.os, k.tape.trans h.tape, k.output.trans h.output, Nat.le_trans h.size k.size, fun b hb => (k.block b (by omega) (fun e => by have := hr b e.symm; omega)).trans (h.block b hb)⟩

theorem one_new (W : World) (v : Value) (t : TypeId) : ∀ j u, [v][j]? = some u → (W.alloc (.cells #[v] t)).cell? ((⟨W.heap.size, 0, none⟩ : Addr).add j) = some u := by
  intro j u hj
  cases j with
  | zero =>
    simp at hj
    subst hj
    exact (Box.new W t v).1
  | succ j => simp at hj
theorem one_one (x : Int) : ∀ u ∈ [Value.int .u8 x], u.oneCell' = true := by
  intro u hu
  simp at hu
  subst hu
  rfl
theorem Keep.grown {M : Nat → Prop} {X Y Z : World} {g : Nat} (h : Keep M X Y) (k : Y.grownBy Z (some g)) (hg : M g) : Keep M X Z :=
  h.trans ⟨k.size, fun b hb hm => k.block b hb (fun e => hm (by cases e; exact hg))⟩

/-- between two rounds: B the first block of the call; the row lies in B + 1, its variable in P -/
structure FsI (B P n : Nat) (k : Int) (w : World) (x : Nat) (W : World) : Prop where
  fit : cntW k x ≤ n
  nb : Box W B (.int .i64 (n : Int))
  cb : Box W P (.slice (some ⟨B + 1, 0, none⟩) (cntW k x) n)
  own : W.ownsRow B 5 1 (.slice (some ⟨B + 1, 0, none⟩) (cntW k x) n) (cntW k x) (bytesV (chs k x))
  below : Below B w W

theorem u8_info4 : (Tryz.prog.info? 5).map (fun i => (i.zero, i.size, i.bytes)) = some (some (.int .u8 0), 1, 1) := by kernel_rfl

set_option maxRecDepth 100000 in
set_option maxHeartbeats 2000000 in
theorem first_any (n : Nat) (k : Nat) (hn : n ≤ 64) (hk : k ≤ 8) (hN : n ≤ cntW (k : Int) 256) (w : World) :
    Calls Tryz.prog 56 #[.int .i64 (n : Int), .int .i64 (k : Int)] w fun e w' =>
      e = .returned (.slice (some ⟨w.heap.size + 1, 0, none⟩) n n) ∧ w'.ownsRow w.heap.size 5 1 (.slice (some ⟨w.heap.size + 1, 0, none⟩) n n) n (bytesV (firsts n (k : Int))) ∧ Below w.heap.size w w' := by
  obtain ⟨i, hi, hz0, hz1, hz2⟩ := info_parts u8_info4
  refine (callsIn_wide (n := 10)).1 ?_
  refine callsIn_of_wp_marks Tryz.func56 rfl trivial ?_ rfl
  simp only [Tryz.ntmps56, List.size_toArray, List.length_cons, List.length_nil, Nat.reduceAdd, Nat.reduceSub, Array.replicate_succ, Array.replicate_zero, List.push_toArray, List.append_toArray, List.nil_append, List.cons_append]
  refine wpIn_wide.2 ?_
  go_wp2_with (at_make; refine wpList_make_own _ rfl _ _ 69 rfl w.heap.size 5 i (.int .u8 0) 1 Tryz.underlying69 hi hz0 hz1 _ _ _ n rfl rfl (by omega) (by rw [hz2]; omega) (by unfold maxLen; omega) (by simp) ?_; intro V1 hown hgrow)
  have hV1 : w.heap.size + 1 ≤ V1.heap.size := by have := hgrow.size; simpa using this
  have a0 : Box V1 w.heap.size (.int .i64 (n : Int)) := (Box.new w _ _).of (hgrow.block _ (by simp) (by simp))
  have hB1 : Below w.heap.size w V1 := below_grown ((Below.refl _ w).alloc (Nat.le_refl _) _) hgrow (by simp) (by simp)
  rw [World.size_alloc] at hown
  have hg1 : w.heap.size + 1 < V1.heap.size := (hown.lt _ rfl).2
  refine (choose8_yes 8 (k : Int) (by omega) (by omega) (by omega) _).mono ?_
  rintro e w' ⟨rfl, rfl⟩
  obtain ⟨V, hV⟩ : ∃ V, ((V1.alloc (.cells #[.slice (some ⟨w.heap.size + 1, 0, none⟩) 0 n] 69)).alloc (.cells #[.int .i64 8] 3)).alloc (.cells #[.int .i64 (k : Int)] 3) = V := ⟨_, rfl⟩
  obtain ⟨sV, c0, c1, c2, hSV⟩ := box3 V1 _ _ _ _ _ _ V hV
  rw [hV]
  simp only [World.size_alloc]
  obtain ⟨P, hP⟩ : ∃ P, V1.heap.size = P := ⟨_, rfl⟩
  rw [hP] at hV1 hg1 sV c0 c1 c2 ⊢
  have b0 := a0.stayed hSV
  have hown' := owns_stay hown hSV
  have hBV : Below w.heap.size w V := below_stay hB1 hSV (by omega)
  obtain ⟨B, hB⟩ : ∃ B, w.heap.size = B := ⟨_, rfl⟩
  rw [hB] at hV1 hg1 b0 c0 hown' hBV ⊢
  clear a0 hgrow hown hB1 hSV hV hP
  go_wp2
  refine (wpIn_wide (n := 10)).1 (rangeC rfl (enters_of Tryz.func99 (by kernel_rfl) rfl) (choose8_seq (P + 1) (P + 1 + 1) 8 (by omega) (k : Int) V c1.lt c2.lt c1.1 c2.1) (fun _ => rfl)
    (fun x => x = B + 1 ∨ x = P) (by rintro x (rfl | rfl) <;> constructor <;> omega) (by rintro x rfl; omega)
    (FsI B P n (k : Int) w) (fun c x W => c = .exit 0 ∧ cntW (k : Int) x = n ∧ FsI B P n (k : Int) w x W)
    (by rintro x A C ⟨h1, h2, h3, h4, h5⟩ hs; exact ⟨h1, h2.stay hs, h3.stay hs, owns_stay h4 hs, below_stay h5 hs (by omega)⟩)
    (by rintro c x A C ⟨h0, h00, h1, h2, h3, h4, h5⟩ hs; exact ⟨h0, h00, h1, h2.stay hs, h3.stay hs, owns_stay h4 hs, below_stay h5 hs (by omega)⟩)
    ⟨by simp [cntW], b0, c0, hown', hBV⟩
    (by rintro x W hx hp ⟨h1, h2, h3, h4, h5⟩
        have e1 := Bm.cntW_no _ _ hp
        have e2 := chs_no _ _ hp
        exact ⟨by rw [e1]; exact h1, h2, by rw [e1]; exact h3, by rw [e1, e2]; exact h4, h5⟩) ?round ?done ?stop)
  case round =>
    rintro l x W W2 hx hp ⟨h1, h2, h3, h4, h5⟩
    have ey := Bm.cntW_yes _ _ hp
    have el := chs_yes _ _ hp
    have hx256 : x < 256 := hx
    obtain ⟨m, hm⟩ : ∃ m, cntW (k : Int) x = m := ⟨_, rfl⟩
    obtain ⟨L, hL⟩ : ∃ L, chs (k : Int) x = L := ⟨_, rfl⟩
    rw [hm] at h1 h3 h4 ey
    rw [hL] at h4 el
    have hPW : P < W2.heap.size := h3.lt
    have q2 := h2.1; have q3 := h3.1; have f3 := h3.2
    by_cases hmn : m = n
    · have fin : Hid (Keep (fun x => x = B + 1 ∨ x = P) W2 W2 ∧ cntW (k : Int) x = n ∧ FsI B P n (k : Int) w x W2) := ⟨Keep.refl _ _, by rw [hm]; exact hmn, by rw [hm]; omega, h2, by rw [hm]; exact h3, by rw [hm, hL]; exact h4, h5⟩
      subst hmn
      clear h1 h2 h3 h4 h5 hp ey el hm hL
      gi_wp2
      try (refine ⟨trivial, ?_⟩)
      try gi_wp2
      exact ⟨fin.out.1, rfl, fin.out.2⟩
    · have hlt : m + 1 ≤ n := by omega
      have hdn : ((m : Int) == (n : Int)) = false := by simp; omega
      have H2 : Hid (Box W2 B (.int .i64 (n : Int))) := h2
      have H3 : Hid (Box W2 P (.slice (some ⟨B + 1, 0, none⟩) m n)) := h3
      have H4 : Hid (∀ o, (W2.alloc o).ownsRow B 5 1 (.slice (some ⟨B + 1, 0, none⟩) m n) m (bytesV L)) := fun o => owns_of h4 (Below.heap_alloc W2 o _ (by omega))
      have H5 : Hid (Below B w W2) := h5
      have EY : Hid _ := ey
      have EL : Hid _ := el
      clear h1 h2 h3 h4 h5 hp ey el hm hL hmn
      gi_wp2
      refine ⟨trivial, ?_⟩
      gi_wp2_with (gi_at_builtin; refine wpListIn_append_fits _ rfl _ _ 69 rfl B 5 i 1 Tryz.underlying69 hi hz1 (B + 1) m n (bytesV L) rfl (H4.out _) ⟨W2.heap.size, 0, none⟩ 1 1 [.int .u8 (x : Int)] rfl rfl (one_new W2 _ _) (one_one _) hlt ?_)
      intro W3 hown3 hgrow3
      have b3 : Box W3 P (.slice (some ⟨B + 1, 0, none⟩) m n) := (H3.out.alloc _).of (hgrow3.block P (by simp; omega) (by simp; omega))
      have a3 : Box W3 B (.int .i64 (n : Int)) := (H2.out.alloc _).of (hgrow3.block B (by simp; omega) (by simp))
      have fin : Hid (Keep (fun x => x = B + 1 ∨ x = P) W2 (W3.setCell ⟨P, 0, none⟩ (.slice (some ⟨B + 1, 0, none⟩) (m + 1) n)) ∧ FsI B P n (k : Int) w (x + 1) (W3.setCell ⟨P, 0, none⟩ (.slice (some ⟨B + 1, 0, none⟩) (m + 1) n))) := by
        refine ⟨((((Keep.refl _ W2).alloc _).grown hgrow3 (.inl rfl)).set (c := P) (.inr rfl) _), ?_⟩
        refine ⟨by rw [EY.out]; exact hlt, a3.other (by omega) _, by rw [EY.out]; exact b3.set _, ?_, (below_grown (H5.out.alloc (by omega) _) hgrow3 (by rintro g ⟨⟩; omega) (by simp; omega)).setCell (p := ⟨P, 0, none⟩) (by simp; omega) _⟩
        rw [EY.out, EL.out, ← bytesV_snoc]
        exact owns_of hown3 (Below.heap_setCell W3 ⟨P, 0, none⟩ _ _ (by simp; omega))
      have q4 := b3.1; have f4 := b3.2
      clear hown3 hgrow3 b3 a3 H2 H3 H4 H5 EY EL q2 q3 f3
      gi_wp2
      exact fin.out
  case done =>
    rintro D W hD ⟨h1, h2, h3, h4, h5⟩ hK
    have e1 : cntW (k : Int) (2 ^ 8) = n := Nat.le_antisymm h1 hN
    have e2 : chs (k : Int) (2 ^ 8) = firsts n (k : Int) := by
      unfold firsts
      rw [← e1]; exact chs_take (k : Int) 256 256 (Nat.le_refl _)
    rw [e1] at h3 h4
    rw [e2] at h4
    have q3 := h3.1
    have fin : Hid (W.heap[D]? = some (.deferred (some [])) ∧ (W.putObj D (.deferred none)).ownsRow B 5 1 (.slice (some ⟨B + 1, 0, none⟩) n n) n (bytesV (firsts n (k : Int))) ∧ Below B w (W.putObj D (.deferred none))) :=
      ⟨hK, owns_stay h4 (Stay.putObj (B := D) _ hK rfl (Nat.le_refl _)), sy_shut hK (by omega) h5⟩
    clear h1 h2 h3 h4 h5 hK e1 e2
    go_wp2
    refine ⟨by simp, .inl ⟨_, _, rfl, run_takeDeferred fin.out.1, ?_⟩⟩
    refine ⟨_, results_tmp rfl _ _ _, ?_, ?_⟩
    · rw [hB]; rfl
    · rw [hB]; exact fin.out.2
  case stop =>
    rintro D c x W hD hx hp ⟨rfl, e1, h1, h2, h3, h4, h5⟩ hK
    have e2 : chs (k : Int) x = firsts n (k : Int) := by
      unfold firsts
      rw [← e1]; exact chs_take (k : Int) x 256 (Nat.le_of_lt hx)
    rw [e1] at h3 h4
    rw [e2] at h4
    have q3 := h3.1
    have fin : Hid (W.heap[D]? = some (.deferred (some [])) ∧ (W.putObj D (.deferred none)).ownsRow B 5 1 (.slice (some ⟨B + 1, 0, none⟩) n n) n (bytesV (firsts n (k : Int))) ∧ Below B w (W.putObj D (.deferred none))) :=
      ⟨hK, owns_stay h4 (Stay.putObj (B := D) _ hK rfl (Nat.le_refl _)), sy_shut hK (by omega) h5⟩
    clear h1 h2 h3 h4 h5 hK e1 e2 hp
    refine wpIn_wide.2 ?_
    go_wp2
    refine ⟨by simp, .inl ⟨_, _, rfl, run_takeDeferred fin.out.1, ?_⟩⟩
    refine ⟨_, results_tmp rfl _ _ _, ?_, ?_⟩
    · rw [hB]; rfl
    · rw [hB]; exact fin.out.2
end Go.Proofs.YtoimbjbdkkohcaaGreatDoor
