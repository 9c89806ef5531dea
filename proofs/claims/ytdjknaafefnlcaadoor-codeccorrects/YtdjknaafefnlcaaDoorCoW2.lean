/-
  What is told of a line; a word's verdict in the mode 2; the virtual symbols of an index.
-/
import Derived.Test.YtdjknaafefnlcaaDoorCoW1
import Derived.Test.YtdjknaafefnlcaaDoorRoundM
namespace Go.Proofs.YtdjknaafefnlcaaDoor
open Go.RowKit Go.Shelf
open Bm (wt wtK)
open Po (El toE)
attribute [local go_sem] Oper.semAt_some

/-- a function's two results: a line in A, a verdict in C -/
structure Out2 (B A C : Nat) (w W : World) : Prop where
  a : ∃ X, Bk .u8 W A 64 X
  c : ∃ Y, Bk .i64 W C 2 Y
  below : Below B w W
theorem Out2.next {B A C : Nat} {w W W' : World} (h : Out2 B A C w W) (hB : B ≤ A) (k : Below W.heap.size W W') : Out2 B A C w W' :=
  ⟨let ⟨X, hX⟩ := h.a; ⟨X, hX.next k⟩, let ⟨Y, hY⟩ := h.c; ⟨Y, hY.next k⟩, let ⟨_, hX⟩ := h.a; h.below.trans (k.mono (by have := hX.lt; omega))⟩
theorem Out2.drew {B A C : Nat} {w W : World} (h : Out2 B A C w W) : Out2 B A C w W.drew := ⟨let ⟨X, hX⟩ := h.a; ⟨X, hX.drew⟩, let ⟨Y, hY⟩ := h.c; ⟨Y, hY.drew⟩, below_drewN h.below 1⟩
/-- both are stored -/
theorem Out2.put {B A C : Nat} {w W : World} (h : Out2 B A C w W) (hA : B ≤ A) (hC : B ≤ C) (hne : A ≠ C) (L : Nat → Int) (x y : Int) :
    Bk .u8 ((W.setCells A 0 (ints .u8 64 L)).setCells C 0 (vd2 x y)) A 64 L ∧ Bk .i64 ((W.setCells A 0 (ints .u8 64 L)).setCells C 0 (vd2 x y)) C 2 (two x y) ∧ Below B w ((W.setCells A 0 (ints .u8 64 L)).setCells C 0 (vd2 x y)) := by
  obtain ⟨X, hX⟩ := h.a
  obtain ⟨Y, hY⟩ := h.c
  exact ⟨(hX.put L).putOther hne 0 _, (hY.putOther (fun e => hne e.symm) 0 _).put (two x y), belows_put hC _ 0 (belows_put hA _ 0 h.below)⟩
theorem Out2.put1 {B A C : Nat} {w W : World} (h : Out2 B A C w W) (hA : B ≤ A) (hne : A ≠ C) (L : Nat → Int) : Out2 B A C w (W.setCells A 0 (ints .u8 64 L)) := by
  obtain ⟨X, hX⟩ := h.a
  obtain ⟨Y, hY⟩ := h.c
  exact ⟨⟨L, hX.put L⟩, ⟨Y, hY.putOther (fun e => hne e.symm) 0 _⟩, belows_put hA _ 0 h.below⟩
theorem Out2.put2 {B A C : Nat} {w W : World} (h : Out2 B A C w W) (hC : B ≤ C) (hne : A ≠ C) (x y : Int) : Out2 B A C w (W.setCells C 0 (vd2 x y)) := by
  obtain ⟨X, hX⟩ := h.a
  obtain ⟨Y, hY⟩ := h.c
  exact ⟨⟨X, hX.putOther hne 0 _⟩, ⟨two x y, hY.put (two x y)⟩, belows_put hC _ 0 h.below⟩
theorem info10v (x y : Int) : (Tryd.prog.info? 32).map (·.size) = some (vd2 x y).length := by rw [vd2_eq]; exact info10
/-- they are told -/
theorem out2_results {A C : Nat} {W : World} {L : Nat → Int} {x y : Int} (h1 : Bk .u8 W A 64 L) (h2 : Bk .i64 W C 2 (two x y)) :
    (loadVar 23 ⟨A, 0, none⟩).run Tryd.prog W = .ok (.agg (ints .u8 64 L).toArray) W ∧ (loadVar 32 ⟨C, 0, none⟩).run Tryd.prog W = .ok (.agg (vd2 x y).toArray) W :=
  ⟨run_loadVar_mid (P := Tryd.prog) W A 0 23 _ _ h1.range Tryd.underlying23 rfl (by rw [ints_len]; exact infoL), run_loadVar_mid (P := Tryd.prog) W C 0 32 _ _ h2.range Tryd.underlying32 rfl (info10v x y)⟩

/-- the line that is told -/
def tln (k : Int) (L : Nat → Int) (i : Nat) : Int := if k = 3 ∨ k = 2 then 0 else L i
theorem tln_dead (k : Int) (L : Nat → Int) (h : k = 3 ∨ k = 2) : tln k L = fun _ => 0 := by
  funext i; unfold tln; rw [if_pos h]
theorem tln_live (k : Int) (L : Nat → Int) (h : ¬ (k = 3 ∨ k = 2)) : tln k L = L := by
  funext i; unfold tln; rw [if_neg h]
theorem zeroL10 (w : World) : (zeroValue 23).run Tryd.prog w = .ok (.agg (ints .u8 64 fun _ => 0).toArray) w := by kernel_rfl
set_option maxRecDepth 100000 in
set_option maxHeartbeats 1000000 in
theorem told_any (L : Nat → Int) (x y : Int) (w : World) :
    Calls Tryd.prog 42 #[.agg (ints .u8 64 L).toArray, .agg (vd2 x y).toArray] w fun e w' => e = .returned (.tuple #[.agg (ints .u8 64 (tln x L)).toArray, .agg (vd2 x y).toArray]) ∧ Below w.heap.size w w' := by
  have hz := zeroL10
  have hz2 := zero10
  obtain ⟨T, HT⟩ : ∃ T, Hid (tln x L = T) := ⟨_, rfl⟩
  rw [HT.out]
  obtain ⟨A0, hA0⟩ : ∃ A, ints .u8 64 L = A := ⟨_, rfl⟩
  obtain ⟨Z, hZ⟩ : ∃ A, (ints .u8 64 fun _ => 0) = A := ⟨_, rfl⟩
  obtain ⟨A1, hA1⟩ : ∃ A, vd2 x y = A := ⟨_, rfl⟩
  have i0 : (Tryd.prog.info? 23).map (·.size) = some A0.length := by rw [← hA0, ints_len]; exact infoL
  have iZ : (Tryd.prog.info? 23).map (·.size) = some Z.toArray.size := by rw [← hZ]; simpa [ints_len] using infoL
  have i1 : (Tryd.prog.info? 32).map (·.size) = some A1.length := by rw [← hA1]; exact info10v x y
  have o0 : A0.toArray.all (·.oneCell') = true := by rw [← hA0]; exact ints_one .u8 64 _
  have oZ : Z.toArray.all (·.oneCell') = true := by rw [← hZ]; exact ints_one .u8 64 _
  have o1 : A1.toArray.all (·.oneCell') = true := by rw [← hA1]; exact ints_one .i64 2 _
  rw [hZ] at hz
  rw [hA0, hA1]
  go_enter Tryd.func42, Tryd.ntmps42
  go_upto_region 1 with (fail)
  obtain ⟨V, hV⟩ : ∃ V, (((w.alloc (.cells A0.toArray 23)).alloc (.cells A1.toArray 32)).alloc (.cells Z.toArray 23)).alloc (.cells #[.int .i64 0, .int .i64 0] 32) = V := ⟨_, rfl⟩
  obtain ⟨B, hB⟩ : ∃ B, w.heap.size = B := ⟨_, rfl⟩
  obtain ⟨D, hD⟩ : ∃ D, B + 1 + 1 = D := ⟨_, rfl⟩
  obtain ⟨E, hE⟩ : ∃ E, D + 1 = E := ⟨_, rfl⟩
  have HV : Bk .u8 V B 64 L ∧ Bk .i64 V (B + 1) 2 (two x y) ∧ Out2 B D E w V := by
    have h0 := Bk.new .u8 w 64 L 23
    have h1 := Bk.new .i64 (w.alloc (.cells A0.toArray 23)) 2 (two x y) 32
    have h2 := Bk.new .u8 ((w.alloc (.cells A0.toArray 23)).alloc (.cells A1.toArray 32)) 64 (fun _ => 0) 23
    have h3 := Bk.new2 (((w.alloc (.cells A0.toArray 23)).alloc (.cells A1.toArray 32)).alloc (.cells Z.toArray 23)) 0 0 32
    simp only [World.size_alloc] at h1 h2 h3
    rw [hA0] at h0
    rw [show ints .i64 2 (two x y) = A1 from hA1] at h1
    rw [hZ] at h2
    rw [← hE, ← hD, ← hB, ← hV]
    exact ⟨((h0.alloc _).alloc _).alloc _, (h1.alloc _).alloc _, ⟨_, h2.alloc _⟩, ⟨_, h3⟩, ((((Below.refl _ w).alloc (Nat.le_refl _) _).alloc (by simp) _).alloc (by simp; omega) _).alloc (by simp; omega) _⟩
  have c0 : V.cell? ⟨B + 1, 0, none⟩ = some (.int .i64 x) := HV.2.1.cell 0 (by omega)
  have RS : Hid (V.drew.rangeAt (B + 1) 0 A1 ∧ V.drew.rangeAt B 0 A0) := by
    have h1 := HV.2.1.drew.range
    have h0 := HV.1.drew.range
    rw [show ints .i64 2 (two x y) = A1 from hA1] at h1
    rw [hA0] at h0
    exact ⟨h1, h0⟩
  have HO : Hid (Out2 B D E w V) := HV.2.2
  have HZ : Hid (ints .u8 64 L = A0 ∧ (ints .u8 64 fun _ => 0) = Z ∧ vd2 x y = A1) := ⟨hA0, hZ, hA1⟩
  have j0 : (Tryd.prog.info? 23).map (·.size) = some A0.toArray.size := by simpa using i0
  have j1 : (Tryd.prog.info? 32).map (·.size) = some A1.toArray.size := by simpa using i1
  rw [hV, hB, hD]
  try rw [hE]
  clear hV HV hA0 hZ hA1
  by_cases h3 : x = 3
  · subst h3
    go_upto_region 2 with (fail)
    refine region_ends (by kernel_rfl) (fun W => W.rangeAt (B + 1) 0 A1 ∧ W.rangeAt B 0 A0 ∧ Out2 B D E w W) (fun a' w' => a' = ({ tmps := #[.agg A0.toArray, .agg A1.toArray, .pointer (some ⟨B, 0, none⟩), .pointer (some ⟨B + 1, 0, none⟩), .pointer (some ⟨D, 0, none⟩), .pointer (some ⟨E, 0, none⟩), .pointer (some ⟨B + 1, 0, none⟩), .int .i64 3, .bool true, .bool true, undef, undef, undef, .bool true, .agg Z.toArray, .agg A1.toArray, undef, undef], defers := [] } : Act) ∧ Bk .u8 w' D 64 (fun _ => 0) ∧ Bk .i64 w' E 2 (two 3 y) ∧ Below B w w') ⟨RS.out.1, RS.out.2, HO.out.drew⟩ (fun hH => ?_) ?_
    · skip
      refine take_pure 0 (v := .agg Z.toArray) rfl (by kernel_rfl) rfl (fun w' hw => by simp [execOp, go_sem, hz]) hH ?_
      show wpAnyH _ _ _ _ _ _ _ ({ tmps := #[.agg A0.toArray, .agg A1.toArray, .pointer (some ⟨B, 0, none⟩), .pointer (some ⟨B + 1, 0, none⟩), .pointer (some ⟨D, 0, none⟩), .pointer (some ⟨E, 0, none⟩), .pointer (some ⟨B + 1, 0, none⟩), .int .i64 3, .bool true, .bool true, undef, undef, undef, .bool true, .agg Z.toArray, undef, undef, undef], defers := [] } : Act) _
      refine take_if 1 (v := .agg A1.toArray) rfl (by kernel_rfl) (yieldsIf_load_mid (by rfl) _ _ rfl (B + 1) 0 rfl A1 _ (fun w' hw => hw.1) Tryd.underlying32 rfl i1) hH ?_
      show wpAnyH _ _ _ _ _ _ _ ({ tmps := #[.agg A0.toArray, .agg A1.toArray, .pointer (some ⟨B, 0, none⟩), .pointer (some ⟨B + 1, 0, none⟩), .pointer (some ⟨D, 0, none⟩), .pointer (some ⟨E, 0, none⟩), .pointer (some ⟨B + 1, 0, none⟩), .int .i64 3, .bool true, .bool true, undef, undef, undef, .bool true, .agg Z.toArray, .agg A1.toArray, undef, undef], defers := [] } : Act) _
      obtain ⟨W0, hW0⟩ : ∃ W0, V.drew = W0 := ⟨_, rfl⟩
      rw [hW0] at hH ⊢
      clear hW0
      have hP := hH.2.2.put1 (by omega) (by omega) (fun _ => 0)
      have hQ := hH.2.2.put (by omega) (by omega) (by omega) (fun _ => 0) 3 y
      rw [HZ.out.2.1] at hP hQ
      rw [HZ.out.2.2] at hQ
      refine take_one 2 rfl rfl (by kernel_rfl) ?_
      refine wp_store_mid 23 _ _ rfl D 0 Z.toArray rfl rfl (by obtain ⟨X, hX⟩ := hH.2.2.a; rw [← HZ.out.2.1]; exact hX.there .u8 _) iZ oZ ?_
      refine ⟨⟨World.rangeAt_setCells_apart hH.1 _ 0 _ (.inl (by omega)), World.rangeAt_setCells_apart hH.2.1 _ 0 _ (.inl (by omega)), hP⟩, fun hH => ?_⟩
      show wpAnyH _ _ _ _ _ _ _ ({ tmps := #[.agg A0.toArray, .agg A1.toArray, .pointer (some ⟨B, 0, none⟩), .pointer (some ⟨B + 1, 0, none⟩), .pointer (some ⟨D, 0, none⟩), .pointer (some ⟨E, 0, none⟩), .pointer (some ⟨B + 1, 0, none⟩), .int .i64 3, .bool true, .bool true, undef, undef, undef, .bool true, .agg Z.toArray, .agg A1.toArray, undef, undef], defers := [] } : Act) _
      obtain ⟨W1, hW1⟩ : ∃ W1, W0.setCells D 0 Z = W1 := ⟨_, rfl⟩
      rw [hW1] at hH hQ ⊢
      clear hW1 hP
      have hR := hH.2.2.put2 (by omega) (by omega) 3 y
      rw [HZ.out.2.2] at hR
      refine take_one 3 rfl rfl (by kernel_rfl) ?_
      refine wp_store_mid 32 _ _ rfl E 0 A1.toArray rfl rfl (by obtain ⟨X, hX⟩ := hH.2.2.c; rw [← HZ.out.2.2]; exact hX.there .i64 _) j1 o1 ?_
      refine ⟨⟨World.rangeAt_setCells_apart hH.1 _ 0 _ (.inl (by omega)), World.rangeAt_setCells_apart hH.2.1 _ 0 _ (.inl (by omega)), hR⟩, fun hH => ?_⟩
      show wpAnyH _ _ _ _ _ _ _ ({ tmps := #[.agg A0.toArray, .agg A1.toArray, .pointer (some ⟨B, 0, none⟩), .pointer (some ⟨B + 1, 0, none⟩), .pointer (some ⟨D, 0, none⟩), .pointer (some ⟨E, 0, none⟩), .pointer (some ⟨B + 1, 0, none⟩), .int .i64 3, .bool true, .bool true, undef, undef, undef, .bool true, .agg Z.toArray, .agg A1.toArray, undef, undef], defers := [] } : Act) _
      exact wpAnyH_done (by kernel_rfl) ⟨rfl, hQ⟩ _
    rintro a' W2 ⟨rfl, hQ⟩
    obtain ⟨q1, q2⟩ := out2_results hQ.1 hQ.2.1
    go_wp2
    refine bodyPost_ret (v := .tuple #[.agg (ints .u8 64 (fun _ => 0)).toArray, .agg (vd2 3 y).toArray]) ?_ rfl ⟨by rw [← HT.out, tln_dead _ _ (by omega), HZ.out.2.2], by first | exact hQ.2.2 | (rw [hB]; exact hQ.2.2)⟩
    simp [results, Tryd.f42, asAddr, q1, q2]
  · have d3 : (x == 3) = false := by simpa using h3
    by_cases h2 : x = 2
    · subst h2
      go_upto_region 2 with (fail)
      refine region_ends (by kernel_rfl) (fun W => W.rangeAt (B + 1) 0 A1 ∧ W.rangeAt B 0 A0 ∧ Out2 B D E w W) (fun a' w' => a' = ({ tmps := #[.agg A0.toArray, .agg A1.toArray, .pointer (some ⟨B, 0, none⟩), .pointer (some ⟨B + 1, 0, none⟩), .pointer (some ⟨D, 0, none⟩), .pointer (some ⟨E, 0, none⟩), .pointer (some ⟨B + 1, 0, none⟩), .int .i64 2, .bool false, .bool false, .pointer (some ⟨B + 1, 0, none⟩), .int .i64 2, .bool true, .bool true, .agg Z.toArray, .agg A1.toArray, undef, undef], defers := [] } : Act) ∧ Bk .u8 w' D 64 (fun _ => 0) ∧ Bk .i64 w' E 2 (two 2 y) ∧ Below B w w') ⟨RS.out.1, RS.out.2, HO.out.drew⟩ (fun hH => ?_) ?_
      · skip
        refine take_pure 0 (v := .agg Z.toArray) rfl (by kernel_rfl) rfl (fun w' hw => by simp [execOp, go_sem, hz]) hH ?_
        show wpAnyH _ _ _ _ _ _ _ ({ tmps := #[.agg A0.toArray, .agg A1.toArray, .pointer (some ⟨B, 0, none⟩), .pointer (some ⟨B + 1, 0, none⟩), .pointer (some ⟨D, 0, none⟩), .pointer (some ⟨E, 0, none⟩), .pointer (some ⟨B + 1, 0, none⟩), .int .i64 2, .bool false, .bool false, .pointer (some ⟨B + 1, 0, none⟩), .int .i64 2, .bool true, .bool true, .agg Z.toArray, undef, undef, undef], defers := [] } : Act) _
        refine take_if 1 (v := .agg A1.toArray) rfl (by kernel_rfl) (yieldsIf_load_mid (by rfl) _ _ rfl (B + 1) 0 rfl A1 _ (fun w' hw => hw.1) Tryd.underlying32 rfl i1) hH ?_
        show wpAnyH _ _ _ _ _ _ _ ({ tmps := #[.agg A0.toArray, .agg A1.toArray, .pointer (some ⟨B, 0, none⟩), .pointer (some ⟨B + 1, 0, none⟩), .pointer (some ⟨D, 0, none⟩), .pointer (some ⟨E, 0, none⟩), .pointer (some ⟨B + 1, 0, none⟩), .int .i64 2, .bool false, .bool false, .pointer (some ⟨B + 1, 0, none⟩), .int .i64 2, .bool true, .bool true, .agg Z.toArray, .agg A1.toArray, undef, undef], defers := [] } : Act) _
        obtain ⟨W0, hW0⟩ : ∃ W0, V.drew = W0 := ⟨_, rfl⟩
        rw [hW0] at hH ⊢
        clear hW0
        have hP := hH.2.2.put1 (by omega) (by omega) (fun _ => 0)
        have hQ := hH.2.2.put (by omega) (by omega) (by omega) (fun _ => 0) 2 y
        rw [HZ.out.2.1] at hP hQ
        rw [HZ.out.2.2] at hQ
        refine take_one 2 rfl rfl (by kernel_rfl) ?_
        refine wp_store_mid 23 _ _ rfl D 0 Z.toArray rfl rfl (by obtain ⟨X, hX⟩ := hH.2.2.a; rw [← HZ.out.2.1]; exact hX.there .u8 _) iZ oZ ?_
        refine ⟨⟨World.rangeAt_setCells_apart hH.1 _ 0 _ (.inl (by omega)), World.rangeAt_setCells_apart hH.2.1 _ 0 _ (.inl (by omega)), hP⟩, fun hH => ?_⟩
        show wpAnyH _ _ _ _ _ _ _ ({ tmps := #[.agg A0.toArray, .agg A1.toArray, .pointer (some ⟨B, 0, none⟩), .pointer (some ⟨B + 1, 0, none⟩), .pointer (some ⟨D, 0, none⟩), .pointer (some ⟨E, 0, none⟩), .pointer (some ⟨B + 1, 0, none⟩), .int .i64 2, .bool false, .bool false, .pointer (some ⟨B + 1, 0, none⟩), .int .i64 2, .bool true, .bool true, .agg Z.toArray, .agg A1.toArray, undef, undef], defers := [] } : Act) _
        obtain ⟨W1, hW1⟩ : ∃ W1, W0.setCells D 0 Z = W1 := ⟨_, rfl⟩
        rw [hW1] at hH hQ ⊢
        clear hW1 hP
        have hR := hH.2.2.put2 (by omega) (by omega) 2 y
        rw [HZ.out.2.2] at hR
        refine take_one 3 rfl rfl (by kernel_rfl) ?_
        refine wp_store_mid 32 _ _ rfl E 0 A1.toArray rfl rfl (by obtain ⟨X, hX⟩ := hH.2.2.c; rw [← HZ.out.2.2]; exact hX.there .i64 _) j1 o1 ?_
        refine ⟨⟨World.rangeAt_setCells_apart hH.1 _ 0 _ (.inl (by omega)), World.rangeAt_setCells_apart hH.2.1 _ 0 _ (.inl (by omega)), hR⟩, fun hH => ?_⟩
        show wpAnyH _ _ _ _ _ _ _ ({ tmps := #[.agg A0.toArray, .agg A1.toArray, .pointer (some ⟨B, 0, none⟩), .pointer (some ⟨B + 1, 0, none⟩), .pointer (some ⟨D, 0, none⟩), .pointer (some ⟨E, 0, none⟩), .pointer (some ⟨B + 1, 0, none⟩), .int .i64 2, .bool false, .bool false, .pointer (some ⟨B + 1, 0, none⟩), .int .i64 2, .bool true, .bool true, .agg Z.toArray, .agg A1.toArray, undef, undef], defers := [] } : Act) _
        exact wpAnyH_done (by kernel_rfl) ⟨rfl, hQ⟩ _
      rintro a' W2 ⟨rfl, hQ⟩
      obtain ⟨q1, q2⟩ := out2_results hQ.1 hQ.2.1
      go_wp2
      refine bodyPost_ret (v := .tuple #[.agg (ints .u8 64 (fun _ => 0)).toArray, .agg (vd2 2 y).toArray]) ?_ rfl ⟨by rw [← HT.out, tln_dead _ _ (by omega), HZ.out.2.2], by first | exact hQ.2.2 | (rw [hB]; exact hQ.2.2)⟩
      simp [results, Tryd.f42, asAddr, q1, q2]
    · have d2 : (x == 2) = false := by simpa using h2
      go_upto_region 3 with (fail)
      refine region_ends (by kernel_rfl) (fun W => W.rangeAt (B + 1) 0 A1 ∧ W.rangeAt B 0 A0 ∧ Out2 B D E w W) (fun a' w' => a' = ({ tmps := #[.agg A0.toArray, .agg A1.toArray, .pointer (some ⟨B, 0, none⟩), .pointer (some ⟨B + 1, 0, none⟩), .pointer (some ⟨D, 0, none⟩), .pointer (some ⟨E, 0, none⟩), .pointer (some ⟨B + 1, 0, none⟩), .int .i64 x, .bool false, .bool false, .pointer (some ⟨B + 1, 0, none⟩), .int .i64 x, .bool false, .bool false, undef, undef, .agg A0.toArray, .agg A1.toArray], defers := [] } : Act) ∧ Bk .u8 w' D 64 L ∧ Bk .i64 w' E 2 (two x y) ∧ Below B w w') ⟨RS.out.1, RS.out.2, HO.out.drew⟩ (fun hH => ?_) ?_
      · skip
        refine take_if 0 (v := .agg A0.toArray) rfl (by kernel_rfl) (yieldsIf_load_mid (by rfl) _ _ rfl B 0 rfl A0 _ (fun w' hw => hw.2.1) Tryd.underlying23 rfl i0) hH ?_
        show wpAnyH _ _ _ _ _ _ _ ({ tmps := #[.agg A0.toArray, .agg A1.toArray, .pointer (some ⟨B, 0, none⟩), .pointer (some ⟨B + 1, 0, none⟩), .pointer (some ⟨D, 0, none⟩), .pointer (some ⟨E, 0, none⟩), .pointer (some ⟨B + 1, 0, none⟩), .int .i64 x, .bool false, .bool false, .pointer (some ⟨B + 1, 0, none⟩), .int .i64 x, .bool false, .bool false, undef, undef, .agg A0.toArray, undef], defers := [] } : Act) _
        refine take_if 1 (v := .agg A1.toArray) rfl (by kernel_rfl) (yieldsIf_load_mid (by rfl) _ _ rfl (B + 1) 0 rfl A1 _ (fun w' hw => hw.1) Tryd.underlying32 rfl i1) hH ?_
        show wpAnyH _ _ _ _ _ _ _ ({ tmps := #[.agg A0.toArray, .agg A1.toArray, .pointer (some ⟨B, 0, none⟩), .pointer (some ⟨B + 1, 0, none⟩), .pointer (some ⟨D, 0, none⟩), .pointer (some ⟨E, 0, none⟩), .pointer (some ⟨B + 1, 0, none⟩), .int .i64 x, .bool false, .bool false, .pointer (some ⟨B + 1, 0, none⟩), .int .i64 x, .bool false, .bool false, undef, undef, .agg A0.toArray, .agg A1.toArray], defers := [] } : Act) _
        obtain ⟨W0, hW0⟩ : ∃ W0, V.drew = W0 := ⟨_, rfl⟩
        rw [hW0] at hH ⊢
        clear hW0
        have hP := hH.2.2.put1 (by omega) (by omega) L
        have hQ := hH.2.2.put (by omega) (by omega) (by omega) L x y
        rw [HZ.out.1] at hP hQ
        rw [HZ.out.2.2] at hQ
        refine take_one 2 rfl rfl (by kernel_rfl) ?_
        refine wp_store_mid 23 _ _ rfl D 0 A0.toArray rfl rfl (by obtain ⟨X, hX⟩ := hH.2.2.a; rw [← HZ.out.1]; exact hX.there .u8 _) j0 o0 ?_
        refine ⟨⟨World.rangeAt_setCells_apart hH.1 _ 0 _ (.inl (by omega)), World.rangeAt_setCells_apart hH.2.1 _ 0 _ (.inl (by omega)), hP⟩, fun hH => ?_⟩
        show wpAnyH _ _ _ _ _ _ _ ({ tmps := #[.agg A0.toArray, .agg A1.toArray, .pointer (some ⟨B, 0, none⟩), .pointer (some ⟨B + 1, 0, none⟩), .pointer (some ⟨D, 0, none⟩), .pointer (some ⟨E, 0, none⟩), .pointer (some ⟨B + 1, 0, none⟩), .int .i64 x, .bool false, .bool false, .pointer (some ⟨B + 1, 0, none⟩), .int .i64 x, .bool false, .bool false, undef, undef, .agg A0.toArray, .agg A1.toArray], defers := [] } : Act) _
        obtain ⟨W1, hW1⟩ : ∃ W1, W0.setCells D 0 A0 = W1 := ⟨_, rfl⟩
        rw [hW1] at hH hQ ⊢
        clear hW1 hP
        have hR := hH.2.2.put2 (by omega) (by omega) x y
        rw [HZ.out.2.2] at hR
        refine take_one 3 rfl rfl (by kernel_rfl) ?_
        refine wp_store_mid 32 _ _ rfl E 0 A1.toArray rfl rfl (by obtain ⟨X, hX⟩ := hH.2.2.c; rw [← HZ.out.2.2]; exact hX.there .i64 _) j1 o1 ?_
        refine ⟨⟨World.rangeAt_setCells_apart hH.1 _ 0 _ (.inl (by omega)), World.rangeAt_setCells_apart hH.2.1 _ 0 _ (.inl (by omega)), hR⟩, fun hH => ?_⟩
        show wpAnyH _ _ _ _ _ _ _ ({ tmps := #[.agg A0.toArray, .agg A1.toArray, .pointer (some ⟨B, 0, none⟩), .pointer (some ⟨B + 1, 0, none⟩), .pointer (some ⟨D, 0, none⟩), .pointer (some ⟨E, 0, none⟩), .pointer (some ⟨B + 1, 0, none⟩), .int .i64 x, .bool false, .bool false, .pointer (some ⟨B + 1, 0, none⟩), .int .i64 x, .bool false, .bool false, undef, undef, .agg A0.toArray, .agg A1.toArray], defers := [] } : Act) _
        exact wpAnyH_done (by kernel_rfl) ⟨rfl, hQ⟩ _
      rintro a' W2 ⟨rfl, hQ⟩
      obtain ⟨q1, q2⟩ := out2_results hQ.1 hQ.2.1
      go_wp2
      refine bodyPost_ret (v := .tuple #[.agg (ints .u8 64 L).toArray, .agg (vd2 x y).toArray]) ?_ rfl ⟨by rw [← HT.out, tln_live _ _ (by omega), HZ.out.2.2], by first | exact hQ.2.2 | (rw [hB]; exact hQ.2.2)⟩
      simp [results, Tryd.f42, asAddr, q1, q2]
--<AFTER told

set_option maxRecDepth 100000 in
set_option maxHeartbeats 1000000 in
theorem ofChips_any (s : Nat → El) (w : World) : Calls Tryd.prog 46 #[.agg (vd s)] w fun e w' => e = .returned (.int .i64 (Co.kC s)) ∧ Below w.heap.size w w' := by
  have hk : Co.kC s = if vk s = 0 then 0 else if vk s = 1 then 1 else if vk s = 2 ∧ vp s = 38 ∧ oe (vv s) = 128 then 2 else 3 := rfl
  obtain ⟨r, hr0⟩ : ∃ r, Co.kC s = r := ⟨_, rfl⟩
  rw [hr0] at hk ⊢
  clear hr0
  unfold vd
  obtain ⟨k, hk0⟩ : ∃ k, vk s = k := ⟨_, rfl⟩
  obtain ⟨p, hp⟩ : ∃ p, vp s = p := ⟨_, rfl⟩
  obtain ⟨v, hv⟩ : ∃ v, oe (vv s) = v := ⟨_, rfl⟩
  rw [hk0, hp, hv] at hk
  rw [hk0, hp, hv]
  have HK : Hid (r = if k = 0 then 0 else if k = 1 then 1 else if k = 2 ∧ p = 38 ∧ v = 128 then 2 else 3) := hk
  have HV : Hid (VdAt (w.alloc (.cells #[.int .i64 k, .int .i64 p, .int .u8 v] 90)) w.heap.size (.int .i64 k) (.int .i64 p) (.int .u8 v)) := VdAt.new _ _ _ _ _
  have HB : Hid (Below w.heap.size w (w.alloc (.cells #[.int .i64 k, .int .i64 p, .int .u8 v] 90))) := (Below.refl _ w).alloc (Nat.le_refl _) _
  clear hk hk0 hp hv
  go_enter Tryd.func46, Tryd.ntmps46
  go_upto_region 2 with (fail)
  obtain ⟨V, hV⟩ : ∃ V, w.alloc (.cells #[.int .i64 k, .int .i64 p, .int .u8 v] 90) = V := ⟨_, rfl⟩
  obtain ⟨B, hB⟩ : ∃ B, w.heap.size = B := ⟨_, rfl⟩
  rw [hV] at HV HB ⊢
  rw [hB] at HV HB ⊢
  have c0 := HV.out.c0
  have hr := HV.out.range
  have i3 := infoVd
  clear hV
  by_cases h0 : k = 0
  · subst h0
    have HR : Hid (r = 0) := HK.out
    clear HK
    go_wp2
    go_ret
    exact ⟨by rw [HR.out]; rfl, by first | exact HB.out | (rw [hB]; exact HB.out)⟩
  · have d0 : (k == 0) = false := by simpa using h0
    by_cases h1 : k = 1
    · subst h1
      have HR : Hid (r = 1) := HK.out
      clear HK
      go_wp2
      go_ret
      exact ⟨by rw [HR.out]; rfl, by first | exact HB.out | (rw [hB]; exact HB.out)⟩
    · have d1 : (k == 1) = false := by simpa using h1
      have HR : Hid (r = if k = 2 ∧ p = 38 ∧ v = 128 then 2 else 3) := by
        show _ = _
        rw [HK.out, if_neg h0, if_neg h1]
      clear HK h0 h1
      go_upto_region 6 with (fail)
      go_wp2_with (refine wpList_load_mid rfl 90 _ rfl _ 0 rfl _ _ hr Tryd.underlying90 rfl i3 ?_)
      all_goals go_ret
      all_goals refine ⟨?_, by first | exact HB.out | (rw [hB]; exact HB.out)⟩
      all_goals rw [HR.out]
      all_goals first | (rw [if_pos ⟨by assumption, by assumption, by assumption⟩]; rfl) | (rw [if_neg (by omega)]; rfl)

/-- the parity of an index, and its bytes with the poison's bit -/
def par (i : Int) : Int := ((wt (i % 8388608).toNat % 2 : Nat) : Int)
def vb (i : Int) (p : Bool) (j : Nat) : Int := if j = 0 then i % 8388608 % 256 else if j = 1 then i % 8388608 / 256 % 256 else i % 8388608 / 65536 + if p then 128 else 0
def vir (i : Int) (p : Bool) (j : Nat) : El := toE (vb i p j)
theorem par_bd (i : Int) : par i = 0 ∨ par i = 1 := by unfold par; omega
theorem vb_bd (i : Int) (p : Bool) (j : Nat) : 0 ≤ vb i p j ∧ vb i p j < 256 := by
  unfold vb
  split
  · omega
  · split
    · omega
    · split <;> omega
theorem oe_vir (i : Int) (p : Bool) (j : Nat) : oe (vir i p j) = vb i p j := ofE_toE _ (vb_bd i p j).1 (vb_bd i p j).2
theorem vir_arr (i : Int) (p : Bool) : arr 3 (vir i p) = ints .u8 3 (vb i p) := by
  unfold arr ints
  refine List.map_congr_left fun j _ => ?_
  rw [oe_vir]
theorem parity10 (i : Int) (w : World) : Calls Tryd.prog 31 #[.int .i64 i] w fun e w' => e = .returned (.int .i64 (par i)) ∧ w' = w := by
  obtain ⟨k, hk, _, h⟩ := parity_any i w
  unfold par
  rw [← hk, Int.toNat_natCast]; exact h
theorem bytes10 (i : Int) (w : World) : Calls Tryd.prog 68 #[.int .i64 i] w fun e w' => e = .returned (.agg (ints .u8 3 (vb i false)).toArray) ∧ Below w.heap.size w w' := by
  have h := bytes_any i w
  have e : ints .u8 3 (vb i false) = [.int .u8 (i % 8388608 % 256), .int .u8 (i % 8388608 / 256 % 256), .int .u8 (i % 8388608 / 65536 % 256)] := by
    have : i % 8388608 / 65536 % 256 = i % 8388608 / 65536 := by omega
    rw [this]
    show [Value.int .u8 (vb i false 0), .int .u8 (vb i false 1), .int .u8 (vb i false 2)] = _
    unfold vb
    simp
  rw [e]; exact h
theorem zeroB3 (w : World) : (zeroValue 37).run Tryd.prog w = .ok (.agg (ints .u8 3 fun _ => 0).toArray) w := by kernel_rfl
theorem infoB3 : (Tryd.prog.info? 37).map (·.size) = some 3 := by kernel_rfl
theorem or128 (x : Int) (h0 : 0 ≤ x) (h1 : x < 128) : bits .or .u8 x 128 = x + 128 := by
  obtain ⟨n, rfl⟩ := Int.eq_ofNat_of_zero_le h0
  have h := u8_or_nat n 128 (by omega) (by omega)
  rw [show ((128 : Nat) : Int) = 128 from rfl] at h
  rw [h, Nat.or_comm]
  have : ∀ n < 128, 128 ||| n = n + 128 := by decide +kernel
  rw [this n (by omega)]; rfl
set_option maxRecDepth 100000 in
set_option maxHeartbeats 1000000 in
theorem virtualOf_any (i : Int) (p : Bool) (w : World) : Calls Tryd.prog 37 #[.int .i64 i, .bool p] w fun e w' => e = .returned (.agg (arr 3 (vir i p)).toArray) ∧ Below w.heap.size w w' := by
  rw [vir_arr]
  have hz := zeroB3
  have cB : Hid (∀ W : World, Calls Tryd.prog 68 #[.int .i64 i] W fun e w' => e = .returned (.agg (ints .u8 3 (vb i false)).toArray) ∧ Below W.heap.size W w') := bytes10 i
  obtain ⟨Z, hZ⟩ : ∃ A, (ints .u8 3 fun _ => 0) = A := ⟨_, rfl⟩
  obtain ⟨A0, hA0⟩ : ∃ A, ints .u8 3 (vb i false) = A := ⟨_, rfl⟩
  have i0 : (Tryd.prog.info? 37).map (·.size) = some A0.toArray.size := by rw [← hA0]; simpa [ints_len] using infoB3
  have o0 : A0.toArray.all (·.oneCell') = true := by rw [← hA0]; exact ints_one .u8 3 _
  rw [hZ] at hz
  rw [hA0] at cB
  go_enter Tryd.func37, Tryd.ntmps37
  go_wp2_with fail
  refine (cB.out _).mono ?_
  rintro e V1 ⟨rfl, b1⟩
  have H1 : Hid (Bk .u8 V1 w.heap.size 3 (fun _ => 0) ∧ Below w.heap.size w V1) := by
    have h := Bk.new .u8 w 3 (fun _ => 0) 37
    rw [hZ] at h
    have b0 := (Below.refl _ w).alloc (Nat.le_refl _) (.cells Z.toArray 37)
    exact ⟨h.next b1, b0.trans (b1.mono (by simp))⟩
  have ht : (V1.alloc (.cells Z.toArray 37)).there V1.heap.size 0 A0.toArray.size := by
    rw [← hZ, ← hA0]; exact (Bk.new .u8 V1 3 (fun _ => 0) 37).there .u8 _
  go_upto_region 2 with (refine wpList_store_mid rfl 37 _ _ rfl _ 0 A0.toArray rfl rfl ht i0 o0 ?_)
  obtain ⟨B, hB⟩ : ∃ B, w.heap.size = B := ⟨_, rfl⟩
  obtain ⟨D, hD⟩ : ∃ D, V1.heap.size = D := ⟨_, rfl⟩
  obtain ⟨V2, hV2⟩ : ∃ V2, (V1.alloc (.cells Z.toArray 37)).setCells V1.heap.size 0 A0 = V2 := ⟨_, rfl⟩
  have H2 : Bk .u8 V2 D 3 (vb i false) ∧ Bk .u8 V2 B 3 (fun _ => 0) ∧ Below B w V2 ∧ B < D := by
    have h := (Bk.new .u8 V1 3 (fun _ => 0) 37).put (vb i false)
    rw [hZ, hA0, hV2, hD] at h
    have hl := H1.out.1.lt
    have h1 := (H1.out.1.alloc (.cells Z.toArray 37)).putOther (c := V1.heap.size) (by omega) 0 A0
    have h2 := belows_put (B := w.heap.size) (b := V1.heap.size) (by omega) A0 0 (H1.out.2.alloc (by omega) (.cells Z.toArray 37))
    rw [hV2] at h1 h2
    rw [hB] at h1 h2 hl
    exact ⟨h, h1, h2, by omega⟩
  rw [hV2, hD, hB]
  clear hV2 hD H1 ht b1 V1
  obtain ⟨h1, h2, h3, hBD⟩ := H2
  cases p
  · have hr := h1.range
    have ht := h2.there .u8 (vb i false)
    rw [hA0] at hr ht
    have HL : Hid (ints .u8 3 (vb i false) = A0 ∧ Below B w V2) := ⟨hA0, h3⟩
    have i1 : (Tryd.prog.info? 37).map (·.size) = some A0.length := by simpa using i0
    clear h1 h2 h3 hA0
    go_wp2_with (first | refine wpList_load_mid rfl 37 _ rfl _ 0 rfl A0 _ hr Tryd.underlying37 rfl i1 ?_ | refine wpList_store_mid rfl 37 _ _ rfl _ 0 A0.toArray rfl rfl ht i0 o0 ?_)
    have hs : (V2.setCells B 0 A0).rangeAt B 0 A0 := World.rangeAt_setCells_same V2 _ 0 A0 (by simpa using ht)
    have hld := run_loadVar_mid (P := Tryd.prog) (V2.setCells B 0 A0) B 0 37 A0 _ hs Tryd.underlying37 rfl i1
    refine bodyPost_ret (v := .agg A0.toArray) ?_ rfl ⟨by rw [HL.out.1], by first | exact belows_put (Nat.le_refl _) A0 0 HL.out.2 | (rw [hB]; exact belows_put (Nat.le_refl _) A0 0 HL.out.2)⟩
    simp [results, Tryd.f37, Act.put, asAddr, hld]
  · have c2 := h1.cell 2 (by omega)
    have f2 := h1.free 2
    have ho := or128 (vb i false 2) (by unfold vb; simp; omega) (by unfold vb; simp; omega)
    have hx := (h1.set 2 (vb i false 2 + 128)).congr (G := vb i true) fun j hj => by
      rcases (show j = 0 ∨ j = 1 ∨ j = 2 by omega) with rfl | rfl | rfl <;> simp [vb]
    have hy := h2.other (c := D) (by omega) 2 (.int .u8 (vb i false 2 + 128))
    have hz2 := h3.setCell (p := ⟨D, 2, none⟩) (by simp; omega) (.int .u8 (vb i false 2 + 128))
    obtain ⟨b, hb⟩ : ∃ b, vb i false 2 = b := ⟨_, rfl⟩
    rw [hb] at c2 ho hx hy hz2
    have hr := hx.range
    have ht := hy.there .u8 (vb i true)
    obtain ⟨A1, hA1⟩ : ∃ A, ints .u8 3 (vb i true) = A := ⟨_, rfl⟩
    have i1 : (Tryd.prog.info? 37).map (·.size) = some A1.length := by rw [← hA1, ints_len]; exact infoB3
    have i2 : (Tryd.prog.info? 37).map (·.size) = some A1.toArray.size := by simpa using i1
    have o1 : A1.toArray.all (·.oneCell') = true := by rw [← hA1]; exact ints_one .u8 3 _
    rw [hA1] at hr ht
    have HL : Hid (ints .u8 3 (vb i true) = A1 ∧ Below B w (V2.setCell ⟨D, 2, none⟩ (.int .u8 (b + 128)))) := ⟨hA1, hz2⟩
    have HR : Hid ((V2.setCell ⟨D, 2, none⟩ (.int .u8 (b + 128))).rangeAt D 0 A1 ∧ (V2.setCell ⟨D, 2, none⟩ (.int .u8 (b + 128))).there B 0 A1.toArray.size) := ⟨hr, ht⟩
    clear h1 h2 h3 hA1 hx hy hz2 hb hr ht hA0 o0 i0
    go_wp2_with (first | refine wpList_load_mid rfl 37 _ rfl _ 0 rfl A1 _ HR.out.1 Tryd.underlying37 rfl i1 ?_ | refine wpList_store_mid rfl 37 _ _ rfl _ 0 A1.toArray rfl rfl HR.out.2 i2 o1 ?_)
    obtain ⟨V3, hV3⟩ : ∃ V3, V2.setCell ⟨D, 2, none⟩ (.int .u8 (b + 128)) = V3 := ⟨_, rfl⟩
    rw [hV3] at HR HL ⊢
    have hs : (V3.setCells B 0 A1).rangeAt B 0 A1 := World.rangeAt_setCells_same V3 _ 0 A1 (by simpa using HR.out.2)
    have hld := run_loadVar_mid (P := Tryd.prog) (V3.setCells B 0 A1) B 0 37 A1 _ hs Tryd.underlying37 rfl i1
    refine bodyPost_ret (v := .agg A1.toArray) ?_ rfl ⟨by rw [HL.out.1], by first | exact belows_put (Nat.le_refl _) A1 0 HL.out.2 | (rw [hB]; exact belows_put (Nat.le_refl _) A1 0 HL.out.2)⟩
    simp [results, Tryd.f37, Act.put, asAddr, hld]
end Go.Proofs.YtdjknaafefnlcaaDoor
