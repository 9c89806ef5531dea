/-
  Texts of one family, one behind another: FaW3.
-/
import Derived.Test.YtcpjmfemgdgplaaM04

/-
  The walks of package fault: a fault without what its kind hasn't.
-/
namespace Go.Proofs.Ytcpjmfemgdgplaa
open Go.RowKit Go.Shelf
attribute [local go_sem] Oper.semAt_some

theorem exec_range {P : Program} {op : Oper} {a : Act} {w : World} (ty : TypeId) (x : Operand) (ho : op.op = .load ty x) (b o : Nat) (hx : a.eval x = .pointer (some ⟨b, o, none⟩)) (cs : List Value) (d : TypeDesc) (hc : w.rangeAt b o cs)
    (hu : P.underlying ty = some d) (hd : d.isRow = true) (hi : (P.info? ty).map (·.size) = some cs.length) : (execOp a.eval op).run P w = .ok (.value (.agg cs.toArray)) w := by
  unfold execOp
  simp only [ho, hx, Instr.loadAt, Instr.sureAddr, Sem.run_bind, Sem.run_pure, Result.andThen_ok, run_loadVar_mid w b o ty cs d hc hu hd hi]
/-- what own works on -/
structure Ow11 (B D : Nat) (k p q u v c i x : Int) (w W : World) : Prop where
  f : Ft W B k p q u v c i x
  r : ∃ F, Bk .i64 W D 8 F
  n : D ≠ B
  b : Below B w W
theorem Ow11.next {B D : Nat} {k p q u v c i x : Int} {w W W' : World} (h : Ow11 B D k p q u v c i x w W) (e : Below W.heap.size W W') : Ow11 B D k p q u v c i x w W' :=
  ⟨h.f.next e, h.r.elim fun F y => ⟨F, y.next e⟩, h.n, h.b.trans (e.mono (Nat.le_of_lt h.f.lt))⟩

set_option maxRecDepth 100000 in
set_option maxHeartbeats 2000000 in
theorem own_flip (p q u v c i x : Int) (w : World) :
    Calls Try.prog 59 #[.agg #[.int .i64 1, .int .i64 p, .int .i64 q, .int .i64 u, .int .i64 v, .int .i64 c, .int .i64 i, .int .i64 x]] w fun e w' => e = .returned (.agg #[.int .i64 1, .int .i64 p, .int .i64 q, .int .i64 u, .int .i64 v, .int .i64 0, .int .i64 i, .int .i64 0]) ∧ Below w.heap.size w w' := by
  go_enter Try.func59, Try.ntmps59
  go_upto_region 1 with (fail)
  obtain ⟨V, hV⟩ : ∃ V, (w.alloc (.cells #[.int .i64 1, .int .i64 p, .int .i64 q, .int .i64 u, .int .i64 v, .int .i64 c, .int .i64 i, .int .i64 x] 38)).alloc (.cells #[.int .i64 0, .int .i64 0, .int .i64 0, .int .i64 0, .int .i64 0, .int .i64 0, .int .i64 0, .int .i64 0] 38) = V := ⟨_, rfl⟩
  have HI : Hid (Ow11 w.heap.size (w.heap.size + 1) 1 p q u v c i x w V) := by
    rw [← hV]
    have h1 := Ft.new (w.alloc (.cells #[.int .i64 1, .int .i64 p, .int .i64 q, .int .i64 u, .int .i64 v, .int .i64 c, .int .i64 i, .int .i64 x] 38)) 0 0 0 0 0 0 0 0 38
    simp only [World.size_alloc] at h1
    exact ⟨(Ft.new w 1 p q u v c i x _).alloc _, ⟨_, h1⟩, by omega, ((Below.refl _ w).alloc (Nat.le_refl _) _).alloc (by simp) _⟩
  obtain ⟨B, hB⟩ : ∃ B, w.heap.size = B := ⟨_, rfl⟩
  obtain ⟨D, hD⟩ : ∃ D, B + 1 = D := ⟨_, rfl⟩
  rw [hV]
  rw [hB, hD] at HI ⊢
  have lD : B ≤ D := by omega
  clear hV hD
  have c0 := HI.out.f.c0; have c5 := HI.out.f.c5; have c6 := HI.out.f.c6; have c7 := HI.out.f.c7
  have hr := HI.out.f.place
  obtain ⟨FD, hFD⟩ := HI.out.r
  have ht : V.there D 0 8 := Bk.there hFD .i64 (ffn 1 p q u v 0 i 0)
  obtain ⟨W2, hW2⟩ : ∃ W2, V.setCells D 0 [.int .i64 1, .int .i64 p, .int .i64 q, .int .i64 u, .int .i64 v, .int .i64 0, .int .i64 i, .int .i64 0] = W2 := ⟨_, rfl⟩
  have e2 : Hid (Ft W2 D 1 p q u v 0 i 0 ∧ Below B w W2) := by rw [← hW2]; exact ⟨Bk.put hFD (ffn 1 p q u v 0 i 0), belows_put lD _ 0 HI.out.b⟩
  go_wp2_with (first | refine wpList_load_mid rfl 36 _ rfl B 1 rfl [.int .i64 p, .int .i64 q, .int .i64 u, .int .i64 v] _ hr Try.underlying36 rfl infoP ?_ | refine wpList_store_mid rfl 38 _ _ rfl D 0 #[.int .i64 1, .int .i64 p, .int .i64 q, .int .i64 u, .int .i64 v, .int .i64 0, .int .i64 i, .int .i64 0] rfl rfl ht infoF (one8 1 p q u v 0 i 0) ?_)
  rw [hW2]
  have hs := e2.out.1.range
  have hld := run_loadVar_mid (P := Try.prog) W2 D 0 38 [.int .i64 1, .int .i64 p, .int .i64 q, .int .i64 u, .int .i64 v, .int .i64 0, .int .i64 i, .int .i64 0] _ hs Try.underlying38 rfl infoF
  refine bodyPost_ret (v := .agg #[.int .i64 1, .int .i64 p, .int .i64 q, .int .i64 u, .int .i64 v, .int .i64 0, .int .i64 i, .int .i64 0]) ?_ rfl ⟨rfl, by rw [hB]; exact e2.out.2⟩
  simp [results, Try.f59, Act.put, asAddr, hld]
set_option maxRecDepth 100000 in
set_option maxHeartbeats 2000000 in
theorem own_stuck (p q u v c i x : Int) (w : World) :
    Calls Try.prog 59 #[.agg #[.int .i64 2, .int .i64 p, .int .i64 q, .int .i64 u, .int .i64 v, .int .i64 c, .int .i64 i, .int .i64 x]] w fun e w' => e = .returned (.agg #[.int .i64 2, .int .i64 p, .int .i64 q, .int .i64 u, .int .i64 v, .int .i64 0, .int .i64 i, .int .i64 x]) ∧ Below w.heap.size w w' := by
  go_enter Try.func59, Try.ntmps59
  go_upto_region 1 with (fail)
  obtain ⟨V, hV⟩ : ∃ V, (w.alloc (.cells #[.int .i64 2, .int .i64 p, .int .i64 q, .int .i64 u, .int .i64 v, .int .i64 c, .int .i64 i, .int .i64 x] 38)).alloc (.cells #[.int .i64 0, .int .i64 0, .int .i64 0, .int .i64 0, .int .i64 0, .int .i64 0, .int .i64 0, .int .i64 0] 38) = V := ⟨_, rfl⟩
  have HI : Hid (Ow11 w.heap.size (w.heap.size + 1) 2 p q u v c i x w V) := by
    rw [← hV]
    have h1 := Ft.new (w.alloc (.cells #[.int .i64 2, .int .i64 p, .int .i64 q, .int .i64 u, .int .i64 v, .int .i64 c, .int .i64 i, .int .i64 x] 38)) 0 0 0 0 0 0 0 0 38
    simp only [World.size_alloc] at h1
    exact ⟨(Ft.new w 2 p q u v c i x _).alloc _, ⟨_, h1⟩, by omega, ((Below.refl _ w).alloc (Nat.le_refl _) _).alloc (by simp) _⟩
  obtain ⟨B, hB⟩ : ∃ B, w.heap.size = B := ⟨_, rfl⟩
  obtain ⟨D, hD⟩ : ∃ D, B + 1 = D := ⟨_, rfl⟩
  rw [hV]
  rw [hB, hD] at HI ⊢
  have lD : B ≤ D := by omega
  clear hV hD
  have c0 := HI.out.f.c0; have c5 := HI.out.f.c5; have c6 := HI.out.f.c6; have c7 := HI.out.f.c7
  have hr := HI.out.f.place
  obtain ⟨FD, hFD⟩ := HI.out.r
  have ht : V.there D 0 8 := Bk.there hFD .i64 (ffn 2 p q u v 0 i x)
  obtain ⟨W2, hW2⟩ : ∃ W2, V.setCells D 0 [.int .i64 2, .int .i64 p, .int .i64 q, .int .i64 u, .int .i64 v, .int .i64 0, .int .i64 i, .int .i64 x] = W2 := ⟨_, rfl⟩
  have e2 : Hid (Ft W2 D 2 p q u v 0 i x ∧ Below B w W2) := by rw [← hW2]; exact ⟨Bk.put hFD (ffn 2 p q u v 0 i x), belows_put lD _ 0 HI.out.b⟩
  go_wp2_with (first | refine wpList_load_mid rfl 36 _ rfl B 1 rfl [.int .i64 p, .int .i64 q, .int .i64 u, .int .i64 v] _ hr Try.underlying36 rfl infoP ?_ | refine wpList_store_mid rfl 38 _ _ rfl D 0 #[.int .i64 2, .int .i64 p, .int .i64 q, .int .i64 u, .int .i64 v, .int .i64 0, .int .i64 i, .int .i64 x] rfl rfl ht infoF (one8 2 p q u v 0 i x) ?_)
  rw [hW2]
  have hs := e2.out.1.range
  have hld := run_loadVar_mid (P := Try.prog) W2 D 0 38 [.int .i64 2, .int .i64 p, .int .i64 q, .int .i64 u, .int .i64 v, .int .i64 0, .int .i64 i, .int .i64 x] _ hs Try.underlying38 rfl infoF
  refine bodyPost_ret (v := .agg #[.int .i64 2, .int .i64 p, .int .i64 q, .int .i64 u, .int .i64 v, .int .i64 0, .int .i64 i, .int .i64 x]) ?_ rfl ⟨rfl, by rw [hB]; exact e2.out.2⟩
  simp [results, Try.f59, Act.put, asAddr, hld]
set_option maxRecDepth 100000 in
set_option maxHeartbeats 2000000 in
theorem own_stray (p q u v c i x : Int) (w : World) :
    Calls Try.prog 59 #[.agg #[.int .i64 6, .int .i64 p, .int .i64 q, .int .i64 u, .int .i64 v, .int .i64 c, .int .i64 i, .int .i64 x]] w fun e w' => e = .returned (.agg #[.int .i64 6, .int .i64 p, .int .i64 q, .int .i64 u, .int .i64 v, .int .i64 0, .int .i64 0, .int .i64 0]) ∧ Below w.heap.size w w' := by
  go_enter Try.func59, Try.ntmps59
  go_upto_region 1 with (fail)
  obtain ⟨V, hV⟩ : ∃ V, (w.alloc (.cells #[.int .i64 6, .int .i64 p, .int .i64 q, .int .i64 u, .int .i64 v, .int .i64 c, .int .i64 i, .int .i64 x] 38)).alloc (.cells #[.int .i64 0, .int .i64 0, .int .i64 0, .int .i64 0, .int .i64 0, .int .i64 0, .int .i64 0, .int .i64 0] 38) = V := ⟨_, rfl⟩
  have HI : Hid (Ow11 w.heap.size (w.heap.size + 1) 6 p q u v c i x w V) := by
    rw [← hV]
    have h1 := Ft.new (w.alloc (.cells #[.int .i64 6, .int .i64 p, .int .i64 q, .int .i64 u, .int .i64 v, .int .i64 c, .int .i64 i, .int .i64 x] 38)) 0 0 0 0 0 0 0 0 38
    simp only [World.size_alloc] at h1
    exact ⟨(Ft.new w 6 p q u v c i x _).alloc _, ⟨_, h1⟩, by omega, ((Below.refl _ w).alloc (Nat.le_refl _) _).alloc (by simp) _⟩
  obtain ⟨B, hB⟩ : ∃ B, w.heap.size = B := ⟨_, rfl⟩
  obtain ⟨D, hD⟩ : ∃ D, B + 1 = D := ⟨_, rfl⟩
  rw [hV]
  rw [hB, hD] at HI ⊢
  have lD : B ≤ D := by omega
  clear hV hD
  have c0 := HI.out.f.c0; have c5 := HI.out.f.c5; have c6 := HI.out.f.c6; have c7 := HI.out.f.c7
  have hr := HI.out.f.place
  obtain ⟨FD, hFD⟩ := HI.out.r
  have ht : V.there D 0 8 := Bk.there hFD .i64 (ffn 6 p q u v 0 0 0)
  obtain ⟨W2, hW2⟩ : ∃ W2, V.setCells D 0 [.int .i64 6, .int .i64 p, .int .i64 q, .int .i64 u, .int .i64 v, .int .i64 0, .int .i64 0, .int .i64 0] = W2 := ⟨_, rfl⟩
  have e2 : Hid (Ft W2 D 6 p q u v 0 0 0 ∧ Below B w W2) := by rw [← hW2]; exact ⟨Bk.put hFD (ffn 6 p q u v 0 0 0), belows_put lD _ 0 HI.out.b⟩
  go_wp2_with (first | refine wpList_load_mid rfl 36 _ rfl B 1 rfl [.int .i64 p, .int .i64 q, .int .i64 u, .int .i64 v] _ hr Try.underlying36 rfl infoP ?_ | refine wpList_store_mid rfl 38 _ _ rfl D 0 #[.int .i64 6, .int .i64 p, .int .i64 q, .int .i64 u, .int .i64 v, .int .i64 0, .int .i64 0, .int .i64 0] rfl rfl ht infoF (one8 6 p q u v 0 0 0) ?_)
  rw [hW2]
  have hs := e2.out.1.range
  have hld := run_loadVar_mid (P := Try.prog) W2 D 0 38 [.int .i64 6, .int .i64 p, .int .i64 q, .int .i64 u, .int .i64 v, .int .i64 0, .int .i64 0, .int .i64 0] _ hs Try.underlying38 rfl infoF
  refine bodyPost_ret (v := .agg #[.int .i64 6, .int .i64 p, .int .i64 q, .int .i64 u, .int .i64 v, .int .i64 0, .int .i64 0, .int .i64 0]) ?_ rfl ⟨rfl, by rw [hB]; exact e2.out.2⟩
  simp [results, Try.f59, Act.put, asAddr, hld]
set_option maxRecDepth 100000 in
set_option maxHeartbeats 2000000 in
theorem own_row (p q u v c i x : Int) (w : World) :
    Calls Try.prog 59 #[.agg #[.int .i64 3, .int .i64 p, .int .i64 q, .int .i64 u, .int .i64 v, .int .i64 c, .int .i64 i, .int .i64 x]] w fun e w' => e = .returned (.agg #[.int .i64 3, .int .i64 p, .int .i64 q, .int .i64 u, .int .i64 0, .int .i64 c, .int .i64 0, .int .i64 x]) ∧ Below w.heap.size w w' := by
  go_enter Try.func59, Try.ntmps59
  go_upto_region 1 with (fail)
  obtain ⟨V, hV⟩ : ∃ V, (w.alloc (.cells #[.int .i64 3, .int .i64 p, .int .i64 q, .int .i64 u, .int .i64 v, .int .i64 c, .int .i64 i, .int .i64 x] 38)).alloc (.cells #[.int .i64 0, .int .i64 0, .int .i64 0, .int .i64 0, .int .i64 0, .int .i64 0, .int .i64 0, .int .i64 0] 38) = V := ⟨_, rfl⟩
  have HI : Hid (Ow11 w.heap.size (w.heap.size + 1) 3 p q u v c i x w V) := by
    rw [← hV]
    have h1 := Ft.new (w.alloc (.cells #[.int .i64 3, .int .i64 p, .int .i64 q, .int .i64 u, .int .i64 v, .int .i64 c, .int .i64 i, .int .i64 x] 38)) 0 0 0 0 0 0 0 0 38
    simp only [World.size_alloc] at h1
    exact ⟨(Ft.new w 3 p q u v c i x _).alloc _, ⟨_, h1⟩, by omega, ((Below.refl _ w).alloc (Nat.le_refl _) _).alloc (by simp) _⟩
  obtain ⟨B, hB⟩ : ∃ B, w.heap.size = B := ⟨_, rfl⟩
  obtain ⟨D, hD⟩ : ∃ D, B + 1 = D := ⟨_, rfl⟩
  rw [hV]
  rw [hB, hD] at HI ⊢
  have lD : B ≤ D := by omega
  clear hV hD
  have c0 := HI.out.f.c0; have c5 := HI.out.f.c5; have c6 := HI.out.f.c6; have c7 := HI.out.f.c7
  go_upto_region 10 with (fail)
  refine region_ends (by kernel_rfl) (Ow11 B D 3 p q u v c i x w) (fun a' w' => a' = ({ tmps := #[.agg #[.int .i64 3, .int .i64 p, .int .i64 q, .int .i64 u, .int .i64 v, .int .i64 c, .int .i64 i, .int .i64 x], .pointer (some ⟨B, 0, none⟩), .pointer (some ⟨D, 0, none⟩), .pointer (some ⟨B, 0, none⟩), .int .i64 3, undef, undef, undef, .bool false, .bool false, undef, undef, undef, undef, undef, .bool false, .bool false, undef, undef, undef, undef, undef, undef, undef, .bool true, .bool true, undef, undef, .pointer (some ⟨B, 0, none⟩), .int .i64 3, .agg #[.int .i64 3, .int .i64 p, .int .i64 q, .int .i64 u, .int .i64 v, .int .i64 c, .int .i64 i, .int .i64 x], .pointer (some ⟨B, 1, none⟩), .agg #[.int .i64 p, .int .i64 q, .int .i64 u, .int .i64 v], .agg #[.int .i64 p, .int .i64 q, .int .i64 u, .int .i64 0], .pointer (some ⟨B, 5, none⟩), .int .i64 c, .pointer (some ⟨B, 7, none⟩), .int .i64 x, .agg #[.int .i64 3, .int .i64 p, .int .i64 q, .int .i64 u, .int .i64 0, .int .i64 c, .int .i64 0, .int .i64 x], undef, undef, undef, undef, undef], defers := [] } : Act) ∧ Ft w' D 3 p q u 0 c 0 x ∧ Below B w w') (HI.out.next (below_drew1 V)) (fun hH => ?_) ?_
  · skip
    refine take_pure 0 (v := .pointer (some ⟨B, 0, none⟩)) rfl (by kernel_rfl) rfl (fun w' hw => by simp [execOp, go_sem]) hH ?_
    show wpAnyH _ _ _ _ _ _ _ ({ tmps := #[.agg #[.int .i64 3, .int .i64 p, .int .i64 q, .int .i64 u, .int .i64 v, .int .i64 c, .int .i64 i, .int .i64 x], .pointer (some ⟨B, 0, none⟩), .pointer (some ⟨D, 0, none⟩), .pointer (some ⟨B, 0, none⟩), .int .i64 3, undef, undef, undef, .bool false, .bool false, undef, undef, undef, undef, undef, .bool false, .bool false, undef, undef, undef, undef, undef, undef, undef, .bool true, .bool true, undef, undef, .pointer (some ⟨B, 0, none⟩), undef, undef, undef, undef, undef, undef, undef, undef, undef, undef, undef, undef, undef, undef, undef], defers := [] } : Act) _
    refine take_pure 1 (v := .int .i64 3) rfl (by kernel_rfl) rfl (fun w' hw => exec_cell _ rfl B 0 rfl _ hw.f.c0 rfl) hH ?_
    show wpAnyH _ _ _ _ _ _ _ ({ tmps := #[.agg #[.int .i64 3, .int .i64 p, .int .i64 q, .int .i64 u, .int .i64 v, .int .i64 c, .int .i64 i, .int .i64 x], .pointer (some ⟨B, 0, none⟩), .pointer (some ⟨D, 0, none⟩), .pointer (some ⟨B, 0, none⟩), .int .i64 3, undef, undef, undef, .bool false, .bool false, undef, undef, undef, undef, undef, .bool false, .bool false, undef, undef, undef, undef, undef, undef, undef, .bool true, .bool true, undef, undef, .pointer (some ⟨B, 0, none⟩), .int .i64 3, undef, undef, undef, undef, undef, undef, undef, undef, undef, undef, undef, undef, undef, undef], defers := [] } : Act) _
    refine take_pure 2 (v := .agg #[.int .i64 3, .int .i64 p, .int .i64 q, .int .i64 u, .int .i64 v, .int .i64 c, .int .i64 i, .int .i64 x]) rfl (by kernel_rfl) rfl (fun w' hw => exec_range 38 _ rfl B 0 rfl [.int .i64 3, .int .i64 p, .int .i64 q, .int .i64 u, .int .i64 v, .int .i64 c, .int .i64 i, .int .i64 x] _ hw.f.range Try.underlying38 rfl infoF) hH ?_
    show wpAnyH _ _ _ _ _ _ _ ({ tmps := #[.agg #[.int .i64 3, .int .i64 p, .int .i64 q, .int .i64 u, .int .i64 v, .int .i64 c, .int .i64 i, .int .i64 x], .pointer (some ⟨B, 0, none⟩), .pointer (some ⟨D, 0, none⟩), .pointer (some ⟨B, 0, none⟩), .int .i64 3, undef, undef, undef, .bool false, .bool false, undef, undef, undef, undef, undef, .bool false, .bool false, undef, undef, undef, undef, undef, undef, undef, .bool true, .bool true, undef, undef, .pointer (some ⟨B, 0, none⟩), .int .i64 3, .agg #[.int .i64 3, .int .i64 p, .int .i64 q, .int .i64 u, .int .i64 v, .int .i64 c, .int .i64 i, .int .i64 x], undef, undef, undef, undef, undef, undef, undef, undef, undef, undef, undef, undef, undef], defers := [] } : Act) _
    refine take_pure 3 (v := .pointer (some ⟨B, 1, none⟩)) rfl (by kernel_rfl) rfl (fun w' hw => by simp [execOp, go_sem]) hH ?_
    show wpAnyH _ _ _ _ _ _ _ ({ tmps := #[.agg #[.int .i64 3, .int .i64 p, .int .i64 q, .int .i64 u, .int .i64 v, .int .i64 c, .int .i64 i, .int .i64 x], .pointer (some ⟨B, 0, none⟩), .pointer (some ⟨D, 0, none⟩), .pointer (some ⟨B, 0, none⟩), .int .i64 3, undef, undef, undef, .bool false, .bool false, undef, undef, undef, undef, undef, .bool false, .bool false, undef, undef, undef, undef, undef, undef, undef, .bool true, .bool true, undef, undef, .pointer (some ⟨B, 0, none⟩), .int .i64 3, .agg #[.int .i64 3, .int .i64 p, .int .i64 q, .int .i64 u, .int .i64 v, .int .i64 c, .int .i64 i, .int .i64 x], .pointer (some ⟨B, 1, none⟩), undef, undef, undef, undef, undef, undef, undef, undef, undef, undef, undef, undef], defers := [] } : Act) _
    refine take_pure 4 (v := .agg #[.int .i64 p, .int .i64 q, .int .i64 u, .int .i64 v]) rfl (by kernel_rfl) rfl (fun w' hw => exec_range 36 _ rfl B 1 rfl [.int .i64 p, .int .i64 q, .int .i64 u, .int .i64 v] _ hw.f.place Try.underlying36 rfl infoP) hH ?_
    show wpAnyH _ _ _ _ _ _ _ ({ tmps := #[.agg #[.int .i64 3, .int .i64 p, .int .i64 q, .int .i64 u, .int .i64 v, .int .i64 c, .int .i64 i, .int .i64 x], .pointer (some ⟨B, 0, none⟩), .pointer (some ⟨D, 0, none⟩), .pointer (some ⟨B, 0, none⟩), .int .i64 3, undef, undef, undef, .bool false, .bool false, undef, undef, undef, undef, undef, .bool false, .bool false, undef, undef, undef, undef, undef, undef, undef, .bool true, .bool true, undef, undef, .pointer (some ⟨B, 0, none⟩), .int .i64 3, .agg #[.int .i64 3, .int .i64 p, .int .i64 q, .int .i64 u, .int .i64 v, .int .i64 c, .int .i64 i, .int .i64 x], .pointer (some ⟨B, 1, none⟩), .agg #[.int .i64 p, .int .i64 q, .int .i64 u, .int .i64 v], undef, undef, undef, undef, undef, undef, undef, undef, undef, undef, undef], defers := [] } : Act) _
    refine take_pure 6 (v := .pointer (some ⟨B, 5, none⟩)) rfl (by kernel_rfl) rfl (fun w' hw => by simp [execOp, go_sem]) hH ?_
    show wpAnyH _ _ _ _ _ _ _ ({ tmps := #[.agg #[.int .i64 3, .int .i64 p, .int .i64 q, .int .i64 u, .int .i64 v, .int .i64 c, .int .i64 i, .int .i64 x], .pointer (some ⟨B, 0, none⟩), .pointer (some ⟨D, 0, none⟩), .pointer (some ⟨B, 0, none⟩), .int .i64 3, undef, undef, undef, .bool false, .bool false, undef, undef, undef, undef, undef, .bool false, .bool false, undef, undef, undef, undef, undef, undef, undef, .bool true, .bool true, undef, undef, .pointer (some ⟨B, 0, none⟩), .int .i64 3, .agg #[.int .i64 3, .int .i64 p, .int .i64 q, .int .i64 u, .int .i64 v, .int .i64 c, .int .i64 i, .int .i64 x], .pointer (some ⟨B, 1, none⟩), .agg #[.int .i64 p, .int .i64 q, .int .i64 u, .int .i64 v], undef, .pointer (some ⟨B, 5, none⟩), undef, undef, undef, undef, undef, undef, undef, undef, undef], defers := [] } : Act) _
    refine take_pure 7 (v := .int .i64 c) rfl (by kernel_rfl) rfl (fun w' hw => exec_cell _ rfl B 5 rfl _ hw.f.c5 rfl) hH ?_
    show wpAnyH _ _ _ _ _ _ _ ({ tmps := #[.agg #[.int .i64 3, .int .i64 p, .int .i64 q, .int .i64 u, .int .i64 v, .int .i64 c, .int .i64 i, .int .i64 x], .pointer (some ⟨B, 0, none⟩), .pointer (some ⟨D, 0, none⟩), .pointer (some ⟨B, 0, none⟩), .int .i64 3, undef, undef, undef, .bool false, .bool false, undef, undef, undef, undef, undef, .bool false, .bool false, undef, undef, undef, undef, undef, undef, undef, .bool true, .bool true, undef, undef, .pointer (some ⟨B, 0, none⟩), .int .i64 3, .agg #[.int .i64 3, .int .i64 p, .int .i64 q, .int .i64 u, .int .i64 v, .int .i64 c, .int .i64 i, .int .i64 x], .pointer (some ⟨B, 1, none⟩), .agg #[.int .i64 p, .int .i64 q, .int .i64 u, .int .i64 v], undef, .pointer (some ⟨B, 5, none⟩), .int .i64 c, undef, undef, undef, undef, undef, undef, undef, undef], defers := [] } : Act) _
    refine take_pure 8 (v := .pointer (some ⟨B, 7, none⟩)) rfl (by kernel_rfl) rfl (fun w' hw => by simp [execOp, go_sem]) hH ?_
    show wpAnyH _ _ _ _ _ _ _ ({ tmps := #[.agg #[.int .i64 3, .int .i64 p, .int .i64 q, .int .i64 u, .int .i64 v, .int .i64 c, .int .i64 i, .int .i64 x], .pointer (some ⟨B, 0, none⟩), .pointer (some ⟨D, 0, none⟩), .pointer (some ⟨B, 0, none⟩), .int .i64 3, undef, undef, undef, .bool false, .bool false, undef, undef, undef, undef, undef, .bool false, .bool false, undef, undef, undef, undef, undef, undef, undef, .bool true, .bool true, undef, undef, .pointer (some ⟨B, 0, none⟩), .int .i64 3, .agg #[.int .i64 3, .int .i64 p, .int .i64 q, .int .i64 u, .int .i64 v, .int .i64 c, .int .i64 i, .int .i64 x], .pointer (some ⟨B, 1, none⟩), .agg #[.int .i64 p, .int .i64 q, .int .i64 u, .int .i64 v], undef, .pointer (some ⟨B, 5, none⟩), .int .i64 c, .pointer (some ⟨B, 7, none⟩), undef, undef, undef, undef, undef, undef, undef], defers := [] } : Act) _
    refine take_pure 9 (v := .int .i64 x) rfl (by kernel_rfl) rfl (fun w' hw => exec_cell _ rfl B 7 rfl _ hw.f.c7 rfl) hH ?_
    show wpAnyH _ _ _ _ _ _ _ ({ tmps := #[.agg #[.int .i64 3, .int .i64 p, .int .i64 q, .int .i64 u, .int .i64 v, .int .i64 c, .int .i64 i, .int .i64 x], .pointer (some ⟨B, 0, none⟩), .pointer (some ⟨D, 0, none⟩), .pointer (some ⟨B, 0, none⟩), .int .i64 3, undef, undef, undef, .bool false, .bool false, undef, undef, undef, undef, undef, .bool false, .bool false, undef, undef, undef, undef, undef, undef, undef, .bool true, .bool true, undef, undef, .pointer (some ⟨B, 0, none⟩), .int .i64 3, .agg #[.int .i64 3, .int .i64 p, .int .i64 q, .int .i64 u, .int .i64 v, .int .i64 c, .int .i64 i, .int .i64 x], .pointer (some ⟨B, 1, none⟩), .agg #[.int .i64 p, .int .i64 q, .int .i64 u, .int .i64 v], undef, .pointer (some ⟨B, 5, none⟩), .int .i64 c, .pointer (some ⟨B, 7, none⟩), .int .i64 x, undef, undef, undef, undef, undef, undef], defers := [] } : Act) _
    refine take_one 5 rfl rfl (by kernel_rfl) ?_
    refine wp_contract 54 [.tmp 30, .tmp 32] _ rfl (enters_of Try.func54 (by kernel_rfl) rfl) [.agg #[.int .i64 3, .int .i64 p, .int .i64 q, .int .i64 u, .int .i64 v, .int .i64 c, .int .i64 i, .int .i64 x], .agg #[.int .i64 p, .int .i64 q, .int .i64 u, .int .i64 v]] rfl (named_row p q u v c i x p q u v _) ?_
    rintro e W' ⟨rfl, b1⟩
    refine ⟨_, rfl, hH.next b1, fun hH => ?_⟩
    show wpAnyH _ _ _ _ _ _ _ ({ tmps := #[.agg #[.int .i64 3, .int .i64 p, .int .i64 q, .int .i64 u, .int .i64 v, .int .i64 c, .int .i64 i, .int .i64 x], .pointer (some ⟨B, 0, none⟩), .pointer (some ⟨D, 0, none⟩), .pointer (some ⟨B, 0, none⟩), .int .i64 3, undef, undef, undef, .bool false, .bool false, undef, undef, undef, undef, undef, .bool false, .bool false, undef, undef, undef, undef, undef, undef, undef, .bool true, .bool true, undef, undef, .pointer (some ⟨B, 0, none⟩), .int .i64 3, .agg #[.int .i64 3, .int .i64 p, .int .i64 q, .int .i64 u, .int .i64 v, .int .i64 c, .int .i64 i, .int .i64 x], .pointer (some ⟨B, 1, none⟩), .agg #[.int .i64 p, .int .i64 q, .int .i64 u, .int .i64 v], .agg #[.int .i64 p, .int .i64 q, .int .i64 u, .int .i64 0], .pointer (some ⟨B, 5, none⟩), .int .i64 c, .pointer (some ⟨B, 7, none⟩), .int .i64 x, undef, undef, undef, undef, undef, undef], defers := [] } : Act) _
    refine take_pure 10 (v := .agg #[.int .i64 3, .int .i64 p, .int .i64 q, .int .i64 u, .int .i64 0, .int .i64 c, .int .i64 0, .int .i64 x]) rfl (by kernel_rfl) rfl (fun w' hw => by simp [execOp, go_sem]) hH ?_
    show wpAnyH _ _ _ _ _ _ _ ({ tmps := #[.agg #[.int .i64 3, .int .i64 p, .int .i64 q, .int .i64 u, .int .i64 v, .int .i64 c, .int .i64 i, .int .i64 x], .pointer (some ⟨B, 0, none⟩), .pointer (some ⟨D, 0, none⟩), .pointer (some ⟨B, 0, none⟩), .int .i64 3, undef, undef, undef, .bool false, .bool false, undef, undef, undef, undef, undef, .bool false, .bool false, undef, undef, undef, undef, undef, undef, undef, .bool true, .bool true, undef, undef, .pointer (some ⟨B, 0, none⟩), .int .i64 3, .agg #[.int .i64 3, .int .i64 p, .int .i64 q, .int .i64 u, .int .i64 v, .int .i64 c, .int .i64 i, .int .i64 x], .pointer (some ⟨B, 1, none⟩), .agg #[.int .i64 p, .int .i64 q, .int .i64 u, .int .i64 v], .agg #[.int .i64 p, .int .i64 q, .int .i64 u, .int .i64 0], .pointer (some ⟨B, 5, none⟩), .int .i64 c, .pointer (some ⟨B, 7, none⟩), .int .i64 x, .agg #[.int .i64 3, .int .i64 p, .int .i64 q, .int .i64 u, .int .i64 0, .int .i64 c, .int .i64 0, .int .i64 x], undef, undef, undef, undef, undef], defers := [] } : Act) _
    obtain ⟨FD, hFD⟩ := hH.r
    refine take_one 11 rfl rfl (by kernel_rfl) ?_
    refine wp_store_mid 38 _ _ rfl D 0 #[.int .i64 3, .int .i64 p, .int .i64 q, .int .i64 u, .int .i64 0, .int .i64 c, .int .i64 0, .int .i64 x] rfl rfl (Bk.there hFD .i64 (ffn 3 p q u 0 c 0 x)) infoF (one8 3 p q u 0 c 0 x) ?_
    exact ⟨⟨Bk.putOther hH.f (Ne.symm hH.n) 0 _, ⟨_, Bk.put hFD (ffn 3 p q u 0 c 0 x)⟩, hH.n, belows_put lD _ 0 hH.b⟩, fun _ => wpAnyH_done (by kernel_rfl) ⟨rfl, Bk.put hFD (ffn 3 p q u 0 c 0 x), belows_put lD _ 0 hH.b⟩ _⟩
  rintro a' W2 ⟨rfl, h2⟩
  have e2 : Hid (Ft W2 D 3 p q u 0 c 0 x ∧ Below B w W2) := h2
  clear c0 c5 c6 c7 HI h2
  go_wp2
  have hs := e2.out.1.range
  have hld := run_loadVar_mid (P := Try.prog) W2 D 0 38 [.int .i64 3, .int .i64 p, .int .i64 q, .int .i64 u, .int .i64 0, .int .i64 c, .int .i64 0, .int .i64 x] _ hs Try.underlying38 rfl infoF
  refine bodyPost_ret (v := .agg #[.int .i64 3, .int .i64 p, .int .i64 q, .int .i64 u, .int .i64 0, .int .i64 c, .int .i64 0, .int .i64 x]) ?_ rfl ⟨rfl, by rw [hB]; exact e2.out.2⟩
  simp [results, Try.f59, asAddr, hld]
set_option maxRecDepth 100000 in
set_option maxHeartbeats 2000000 in
theorem own_col (p q u v c i x : Int) (w : World) :
    Calls Try.prog 59 #[.agg #[.int .i64 4, .int .i64 p, .int .i64 q, .int .i64 u, .int .i64 v, .int .i64 c, .int .i64 i, .int .i64 x]] w fun e w' => e = .returned (.agg #[.int .i64 4, .int .i64 p, .int .i64 q, .int .i64 0, .int .i64 v, .int .i64 c, .int .i64 0, .int .i64 x]) ∧ Below w.heap.size w w' := by
  go_enter Try.func59, Try.ntmps59
  go_upto_region 1 with (fail)
  obtain ⟨V, hV⟩ : ∃ V, (w.alloc (.cells #[.int .i64 4, .int .i64 p, .int .i64 q, .int .i64 u, .int .i64 v, .int .i64 c, .int .i64 i, .int .i64 x] 38)).alloc (.cells #[.int .i64 0, .int .i64 0, .int .i64 0, .int .i64 0, .int .i64 0, .int .i64 0, .int .i64 0, .int .i64 0] 38) = V := ⟨_, rfl⟩
  have HI : Hid (Ow11 w.heap.size (w.heap.size + 1) 4 p q u v c i x w V) := by
    rw [← hV]
    have h1 := Ft.new (w.alloc (.cells #[.int .i64 4, .int .i64 p, .int .i64 q, .int .i64 u, .int .i64 v, .int .i64 c, .int .i64 i, .int .i64 x] 38)) 0 0 0 0 0 0 0 0 38
    simp only [World.size_alloc] at h1
    exact ⟨(Ft.new w 4 p q u v c i x _).alloc _, ⟨_, h1⟩, by omega, ((Below.refl _ w).alloc (Nat.le_refl _) _).alloc (by simp) _⟩
  obtain ⟨B, hB⟩ : ∃ B, w.heap.size = B := ⟨_, rfl⟩
  obtain ⟨D, hD⟩ : ∃ D, B + 1 = D := ⟨_, rfl⟩
  rw [hV]
  rw [hB, hD] at HI ⊢
  have lD : B ≤ D := by omega
  clear hV hD
  have c0 := HI.out.f.c0; have c5 := HI.out.f.c5; have c6 := HI.out.f.c6; have c7 := HI.out.f.c7
  go_upto_region 10 with (fail)
  refine region_ends (by kernel_rfl) (Ow11 B D 4 p q u v c i x w) (fun a' w' => a' = ({ tmps := #[.agg #[.int .i64 4, .int .i64 p, .int .i64 q, .int .i64 u, .int .i64 v, .int .i64 c, .int .i64 i, .int .i64 x], .pointer (some ⟨B, 0, none⟩), .pointer (some ⟨D, 0, none⟩), .pointer (some ⟨B, 0, none⟩), .int .i64 4, undef, undef, undef, .bool false, .bool false, undef, undef, undef, undef, undef, .bool false, .bool false, undef, undef, undef, undef, undef, undef, undef, .bool true, .bool false, .bool true, undef, .pointer (some ⟨B, 0, none⟩), .int .i64 4, .agg #[.int .i64 4, .int .i64 p, .int .i64 q, .int .i64 u, .int .i64 v, .int .i64 c, .int .i64 i, .int .i64 x], .pointer (some ⟨B, 1, none⟩), .agg #[.int .i64 p, .int .i64 q, .int .i64 u, .int .i64 v], .agg #[.int .i64 p, .int .i64 q, .int .i64 0, .int .i64 v], .pointer (some ⟨B, 5, none⟩), .int .i64 c, .pointer (some ⟨B, 7, none⟩), .int .i64 x, .agg #[.int .i64 4, .int .i64 p, .int .i64 q, .int .i64 0, .int .i64 v, .int .i64 c, .int .i64 0, .int .i64 x], undef, undef, undef, undef, undef], defers := [] } : Act) ∧ Ft w' D 4 p q 0 v c 0 x ∧ Below B w w') (HI.out.next (below_drew1 V)) (fun hH => ?_) ?_
  · skip
    refine take_pure 0 (v := .pointer (some ⟨B, 0, none⟩)) rfl (by kernel_rfl) rfl (fun w' hw => by simp [execOp, go_sem]) hH ?_
    show wpAnyH _ _ _ _ _ _ _ ({ tmps := #[.agg #[.int .i64 4, .int .i64 p, .int .i64 q, .int .i64 u, .int .i64 v, .int .i64 c, .int .i64 i, .int .i64 x], .pointer (some ⟨B, 0, none⟩), .pointer (some ⟨D, 0, none⟩), .pointer (some ⟨B, 0, none⟩), .int .i64 4, undef, undef, undef, .bool false, .bool false, undef, undef, undef, undef, undef, .bool false, .bool false, undef, undef, undef, undef, undef, undef, undef, .bool true, .bool false, .bool true, undef, .pointer (some ⟨B, 0, none⟩), undef, undef, undef, undef, undef, undef, undef, undef, undef, undef, undef, undef, undef, undef, undef], defers := [] } : Act) _
    refine take_pure 1 (v := .int .i64 4) rfl (by kernel_rfl) rfl (fun w' hw => exec_cell _ rfl B 0 rfl _ hw.f.c0 rfl) hH ?_
    show wpAnyH _ _ _ _ _ _ _ ({ tmps := #[.agg #[.int .i64 4, .int .i64 p, .int .i64 q, .int .i64 u, .int .i64 v, .int .i64 c, .int .i64 i, .int .i64 x], .pointer (some ⟨B, 0, none⟩), .pointer (some ⟨D, 0, none⟩), .pointer (some ⟨B, 0, none⟩), .int .i64 4, undef, undef, undef, .bool false, .bool false, undef, undef, undef, undef, undef, .bool false, .bool false, undef, undef, undef, undef, undef, undef, undef, .bool true, .bool false, .bool true, undef, .pointer (some ⟨B, 0, none⟩), .int .i64 4, undef, undef, undef, undef, undef, undef, undef, undef, undef, undef, undef, undef, undef, undef], defers := [] } : Act) _
    refine take_pure 2 (v := .agg #[.int .i64 4, .int .i64 p, .int .i64 q, .int .i64 u, .int .i64 v, .int .i64 c, .int .i64 i, .int .i64 x]) rfl (by kernel_rfl) rfl (fun w' hw => exec_range 38 _ rfl B 0 rfl [.int .i64 4, .int .i64 p, .int .i64 q, .int .i64 u, .int .i64 v, .int .i64 c, .int .i64 i, .int .i64 x] _ hw.f.range Try.underlying38 rfl infoF) hH ?_
    show wpAnyH _ _ _ _ _ _ _ ({ tmps := #[.agg #[.int .i64 4, .int .i64 p, .int .i64 q, .int .i64 u, .int .i64 v, .int .i64 c, .int .i64 i, .int .i64 x], .pointer (some ⟨B, 0, none⟩), .pointer (some ⟨D, 0, none⟩), .pointer (some ⟨B, 0, none⟩), .int .i64 4, undef, undef, undef, .bool false, .bool false, undef, undef, undef, undef, undef, .bool false, .bool false, undef, undef, undef, undef, undef, undef, undef, .bool true, .bool false, .bool true, undef, .pointer (some ⟨B, 0, none⟩), .int .i64 4, .agg #[.int .i64 4, .int .i64 p, .int .i64 q, .int .i64 u, .int .i64 v, .int .i64 c, .int .i64 i, .int .i64 x], undef, undef, undef, undef, undef, undef, undef, undef, undef, undef, undef, undef, undef], defers := [] } : Act) _
    refine take_pure 3 (v := .pointer (some ⟨B, 1, none⟩)) rfl (by kernel_rfl) rfl (fun w' hw => by simp [execOp, go_sem]) hH ?_
    show wpAnyH _ _ _ _ _ _ _ ({ tmps := #[.agg #[.int .i64 4, .int .i64 p, .int .i64 q, .int .i64 u, .int .i64 v, .int .i64 c, .int .i64 i, .int .i64 x], .pointer (some ⟨B, 0, none⟩), .pointer (some ⟨D, 0, none⟩), .pointer (some ⟨B, 0, none⟩), .int .i64 4, undef, undef, undef, .bool false, .bool false, undef, undef, undef, undef, undef, .bool false, .bool false, undef, undef, undef, undef, undef, undef, undef, .bool true, .bool false, .bool true, undef, .pointer (some ⟨B, 0, none⟩), .int .i64 4, .agg #[.int .i64 4, .int .i64 p, .int .i64 q, .int .i64 u, .int .i64 v, .int .i64 c, .int .i64 i, .int .i64 x], .pointer (some ⟨B, 1, none⟩), undef, undef, undef, undef, undef, undef, undef, undef, undef, undef, undef, undef], defers := [] } : Act) _
    refine take_pure 4 (v := .agg #[.int .i64 p, .int .i64 q, .int .i64 u, .int .i64 v]) rfl (by kernel_rfl) rfl (fun w' hw => exec_range 36 _ rfl B 1 rfl [.int .i64 p, .int .i64 q, .int .i64 u, .int .i64 v] _ hw.f.place Try.underlying36 rfl infoP) hH ?_
    show wpAnyH _ _ _ _ _ _ _ ({ tmps := #[.agg #[.int .i64 4, .int .i64 p, .int .i64 q, .int .i64 u, .int .i64 v, .int .i64 c, .int .i64 i, .int .i64 x], .pointer (some ⟨B, 0, none⟩), .pointer (some ⟨D, 0, none⟩), .pointer (some ⟨B, 0, none⟩), .int .i64 4, undef, undef, undef, .bool false, .bool false, undef, undef, undef, undef, undef, .bool false, .bool false, undef, undef, undef, undef, undef, undef, undef, .bool true, .bool false, .bool true, undef, .pointer (some ⟨B, 0, none⟩), .int .i64 4, .agg #[.int .i64 4, .int .i64 p, .int .i64 q, .int .i64 u, .int .i64 v, .int .i64 c, .int .i64 i, .int .i64 x], .pointer (some ⟨B, 1, none⟩), .agg #[.int .i64 p, .int .i64 q, .int .i64 u, .int .i64 v], undef, undef, undef, undef, undef, undef, undef, undef, undef, undef, undef], defers := [] } : Act) _
    refine take_pure 6 (v := .pointer (some ⟨B, 5, none⟩)) rfl (by kernel_rfl) rfl (fun w' hw => by simp [execOp, go_sem]) hH ?_
    show wpAnyH _ _ _ _ _ _ _ ({ tmps := #[.agg #[.int .i64 4, .int .i64 p, .int .i64 q, .int .i64 u, .int .i64 v, .int .i64 c, .int .i64 i, .int .i64 x], .pointer (some ⟨B, 0, none⟩), .pointer (some ⟨D, 0, none⟩), .pointer (some ⟨B, 0, none⟩), .int .i64 4, undef, undef, undef, .bool false, .bool false, undef, undef, undef, undef, undef, .bool false, .bool false, undef, undef, undef, undef, undef, undef, undef, .bool true, .bool false, .bool true, undef, .pointer (some ⟨B, 0, none⟩), .int .i64 4, .agg #[.int .i64 4, .int .i64 p, .int .i64 q, .int .i64 u, .int .i64 v, .int .i64 c, .int .i64 i, .int .i64 x], .pointer (some ⟨B, 1, none⟩), .agg #[.int .i64 p, .int .i64 q, .int .i64 u, .int .i64 v], undef, .pointer (some ⟨B, 5, none⟩), undef, undef, undef, undef, undef, undef, undef, undef, undef], defers := [] } : Act) _
    refine take_pure 7 (v := .int .i64 c) rfl (by kernel_rfl) rfl (fun w' hw => exec_cell _ rfl B 5 rfl _ hw.f.c5 rfl) hH ?_
    show wpAnyH _ _ _ _ _ _ _ ({ tmps := #[.agg #[.int .i64 4, .int .i64 p, .int .i64 q, .int .i64 u, .int .i64 v, .int .i64 c, .int .i64 i, .int .i64 x], .pointer (some ⟨B, 0, none⟩), .pointer (some ⟨D, 0, none⟩), .pointer (some ⟨B, 0, none⟩), .int .i64 4, undef, undef, undef, .bool false, .bool false, undef, undef, undef, undef, undef, .bool false, .bool false, undef, undef, undef, undef, undef, undef, undef, .bool true, .bool false, .bool true, undef, .pointer (some ⟨B, 0, none⟩), .int .i64 4, .agg #[.int .i64 4, .int .i64 p, .int .i64 q, .int .i64 u, .int .i64 v, .int .i64 c, .int .i64 i, .int .i64 x], .pointer (some ⟨B, 1, none⟩), .agg #[.int .i64 p, .int .i64 q, .int .i64 u, .int .i64 v], undef, .pointer (some ⟨B, 5, none⟩), .int .i64 c, undef, undef, undef, undef, undef, undef, undef, undef], defers := [] } : Act) _
    refine take_pure 8 (v := .pointer (some ⟨B, 7, none⟩)) rfl (by kernel_rfl) rfl (fun w' hw => by simp [execOp, go_sem]) hH ?_
    show wpAnyH _ _ _ _ _ _ _ ({ tmps := #[.agg #[.int .i64 4, .int .i64 p, .int .i64 q, .int .i64 u, .int .i64 v, .int .i64 c, .int .i64 i, .int .i64 x], .pointer (some ⟨B, 0, none⟩), .pointer (some ⟨D, 0, none⟩), .pointer (some ⟨B, 0, none⟩), .int .i64 4, undef, undef, undef, .bool false, .bool false, undef, undef, undef, undef, undef, .bool false, .bool false, undef, undef, undef, undef, undef, undef, undef, .bool true, .bool false, .bool true, undef, .pointer (some ⟨B, 0, none⟩), .int .i64 4, .agg #[.int .i64 4, .int .i64 p, .int .i64 q, .int .i64 u, .int .i64 v, .int .i64 c, .int .i64 i, .int .i64 x], .pointer (some ⟨B, 1, none⟩), .agg #[.int .i64 p, .int .i64 q, .int .i64 u, .int .i64 v], undef, .pointer (some ⟨B, 5, none⟩), .int .i64 c, .pointer (some ⟨B, 7, none⟩), undef, undef, undef, undef, undef, undef, undef], defers := [] } : Act) _
    refine take_pure 9 (v := .int .i64 x) rfl (by kernel_rfl) rfl (fun w' hw => exec_cell _ rfl B 7 rfl _ hw.f.c7 rfl) hH ?_
    show wpAnyH _ _ _ _ _ _ _ ({ tmps := #[.agg #[.int .i64 4, .int .i64 p, .int .i64 q, .int .i64 u, .int .i64 v, .int .i64 c, .int .i64 i, .int .i64 x], .pointer (some ⟨B, 0, none⟩), .pointer (some ⟨D, 0, none⟩), .pointer (some ⟨B, 0, none⟩), .int .i64 4, undef, undef, undef, .bool false, .bool false, undef, undef, undef, undef, undef, .bool false, .bool false, undef, undef, undef, undef, undef, undef, undef, .bool true, .bool false, .bool true, undef, .pointer (some ⟨B, 0, none⟩), .int .i64 4, .agg #[.int .i64 4, .int .i64 p, .int .i64 q, .int .i64 u, .int .i64 v, .int .i64 c, .int .i64 i, .int .i64 x], .pointer (some ⟨B, 1, none⟩), .agg #[.int .i64 p, .int .i64 q, .int .i64 u, .int .i64 v], undef, .pointer (some ⟨B, 5, none⟩), .int .i64 c, .pointer (some ⟨B, 7, none⟩), .int .i64 x, undef, undef, undef, undef, undef, undef], defers := [] } : Act) _
    refine take_one 5 rfl rfl (by kernel_rfl) ?_
    refine wp_contract 54 [.tmp 30, .tmp 32] _ rfl (enters_of Try.func54 (by kernel_rfl) rfl) [.agg #[.int .i64 4, .int .i64 p, .int .i64 q, .int .i64 u, .int .i64 v, .int .i64 c, .int .i64 i, .int .i64 x], .agg #[.int .i64 p, .int .i64 q, .int .i64 u, .int .i64 v]] rfl (named_col p q u v c i x p q u v _) ?_
    rintro e W' ⟨rfl, b1⟩
    refine ⟨_, rfl, hH.next b1, fun hH => ?_⟩
    show wpAnyH _ _ _ _ _ _ _ ({ tmps := #[.agg #[.int .i64 4, .int .i64 p, .int .i64 q, .int .i64 u, .int .i64 v, .int .i64 c, .int .i64 i, .int .i64 x], .pointer (some ⟨B, 0, none⟩), .pointer (some ⟨D, 0, none⟩), .pointer (some ⟨B, 0, none⟩), .int .i64 4, undef, undef, undef, .bool false, .bool false, undef, undef, undef, undef, undef, .bool false, .bool false, undef, undef, undef, undef, undef, undef, undef, .bool true, .bool false, .bool true, undef, .pointer (some ⟨B, 0, none⟩), .int .i64 4, .agg #[.int .i64 4, .int .i64 p, .int .i64 q, .int .i64 u, .int .i64 v, .int .i64 c, .int .i64 i, .int .i64 x], .pointer (some ⟨B, 1, none⟩), .agg #[.int .i64 p, .int .i64 q, .int .i64 u, .int .i64 v], .agg #[.int .i64 p, .int .i64 q, .int .i64 0, .int .i64 v], .pointer (some ⟨B, 5, none⟩), .int .i64 c, .pointer (some ⟨B, 7, none⟩), .int .i64 x, undef, undef, undef, undef, undef, undef], defers := [] } : Act) _
    refine take_pure 10 (v := .agg #[.int .i64 4, .int .i64 p, .int .i64 q, .int .i64 0, .int .i64 v, .int .i64 c, .int .i64 0, .int .i64 x]) rfl (by kernel_rfl) rfl (fun w' hw => by simp [execOp, go_sem]) hH ?_
    show wpAnyH _ _ _ _ _ _ _ ({ tmps := #[.agg #[.int .i64 4, .int .i64 p, .int .i64 q, .int .i64 u, .int .i64 v, .int .i64 c, .int .i64 i, .int .i64 x], .pointer (some ⟨B, 0, none⟩), .pointer (some ⟨D, 0, none⟩), .pointer (some ⟨B, 0, none⟩), .int .i64 4, undef, undef, undef, .bool false, .bool false, undef, undef, undef, undef, undef, .bool false, .bool false, undef, undef, undef, undef, undef, undef, undef, .bool true, .bool false, .bool true, undef, .pointer (some ⟨B, 0, none⟩), .int .i64 4, .agg #[.int .i64 4, .int .i64 p, .int .i64 q, .int .i64 u, .int .i64 v, .int .i64 c, .int .i64 i, .int .i64 x], .pointer (some ⟨B, 1, none⟩), .agg #[.int .i64 p, .int .i64 q, .int .i64 u, .int .i64 v], .agg #[.int .i64 p, .int .i64 q, .int .i64 0, .int .i64 v], .pointer (some ⟨B, 5, none⟩), .int .i64 c, .pointer (some ⟨B, 7, none⟩), .int .i64 x, .agg #[.int .i64 4, .int .i64 p, .int .i64 q, .int .i64 0, .int .i64 v, .int .i64 c, .int .i64 0, .int .i64 x], undef, undef, undef, undef, undef], defers := [] } : Act) _
    obtain ⟨FD, hFD⟩ := hH.r
    refine take_one 11 rfl rfl (by kernel_rfl) ?_
    refine wp_store_mid 38 _ _ rfl D 0 #[.int .i64 4, .int .i64 p, .int .i64 q, .int .i64 0, .int .i64 v, .int .i64 c, .int .i64 0, .int .i64 x] rfl rfl (Bk.there hFD .i64 (ffn 4 p q 0 v c 0 x)) infoF (one8 4 p q 0 v c 0 x) ?_
    exact ⟨⟨Bk.putOther hH.f (Ne.symm hH.n) 0 _, ⟨_, Bk.put hFD (ffn 4 p q 0 v c 0 x)⟩, hH.n, belows_put lD _ 0 hH.b⟩, fun _ => wpAnyH_done (by kernel_rfl) ⟨rfl, Bk.put hFD (ffn 4 p q 0 v c 0 x), belows_put lD _ 0 hH.b⟩ _⟩
  rintro a' W2 ⟨rfl, h2⟩
  have e2 : Hid (Ft W2 D 4 p q 0 v c 0 x ∧ Below B w W2) := h2
  clear c0 c5 c6 c7 HI h2
  go_wp2
  have hs := e2.out.1.range
  have hld := run_loadVar_mid (P := Try.prog) W2 D 0 38 [.int .i64 4, .int .i64 p, .int .i64 q, .int .i64 0, .int .i64 v, .int .i64 c, .int .i64 0, .int .i64 x] _ hs Try.underlying38 rfl infoF
  refine bodyPost_ret (v := .agg #[.int .i64 4, .int .i64 p, .int .i64 q, .int .i64 0, .int .i64 v, .int .i64 c, .int .i64 0, .int .i64 x]) ?_ rfl ⟨rfl, by rw [hB]; exact e2.out.2⟩
  simp [results, Try.f59, asAddr, hld]
set_option maxRecDepth 100000 in
set_option maxHeartbeats 2000000 in
theorem own_chip (p q u v c i x : Int) (w : World) :
    Calls Try.prog 59 #[.agg #[.int .i64 5, .int .i64 p, .int .i64 q, .int .i64 u, .int .i64 v, .int .i64 c, .int .i64 i, .int .i64 x]] w fun e w' => e = .returned (.agg #[.int .i64 5, .int .i64 p, .int .i64 0, .int .i64 0, .int .i64 0, .int .i64 c, .int .i64 0, .int .i64 x]) ∧ Below w.heap.size w w' := by
  go_enter Try.func59, Try.ntmps59
  go_upto_region 1 with (fail)
  obtain ⟨V, hV⟩ : ∃ V, (w.alloc (.cells #[.int .i64 5, .int .i64 p, .int .i64 q, .int .i64 u, .int .i64 v, .int .i64 c, .int .i64 i, .int .i64 x] 38)).alloc (.cells #[.int .i64 0, .int .i64 0, .int .i64 0, .int .i64 0, .int .i64 0, .int .i64 0, .int .i64 0, .int .i64 0] 38) = V := ⟨_, rfl⟩
  have HI : Hid (Ow11 w.heap.size (w.heap.size + 1) 5 p q u v c i x w V) := by
    rw [← hV]
    have h1 := Ft.new (w.alloc (.cells #[.int .i64 5, .int .i64 p, .int .i64 q, .int .i64 u, .int .i64 v, .int .i64 c, .int .i64 i, .int .i64 x] 38)) 0 0 0 0 0 0 0 0 38
    simp only [World.size_alloc] at h1
    exact ⟨(Ft.new w 5 p q u v c i x _).alloc _, ⟨_, h1⟩, by omega, ((Below.refl _ w).alloc (Nat.le_refl _) _).alloc (by simp) _⟩
  obtain ⟨B, hB⟩ : ∃ B, w.heap.size = B := ⟨_, rfl⟩
  obtain ⟨D, hD⟩ : ∃ D, B + 1 = D := ⟨_, rfl⟩
  rw [hV]
  rw [hB, hD] at HI ⊢
  have lD : B ≤ D := by omega
  clear hV hD
  have c0 := HI.out.f.c0; have c5 := HI.out.f.c5; have c6 := HI.out.f.c6; have c7 := HI.out.f.c7
  go_upto_region 10 with (fail)
  refine region_ends (by kernel_rfl) (Ow11 B D 5 p q u v c i x w) (fun a' w' => a' = ({ tmps := #[.agg #[.int .i64 5, .int .i64 p, .int .i64 q, .int .i64 u, .int .i64 v, .int .i64 c, .int .i64 i, .int .i64 x], .pointer (some ⟨B, 0, none⟩), .pointer (some ⟨D, 0, none⟩), .pointer (some ⟨B, 0, none⟩), .int .i64 5, undef, undef, undef, .bool false, .bool false, undef, undef, undef, undef, undef, .bool false, .bool false, undef, undef, undef, undef, undef, undef, undef, .bool true, .bool false, .bool false, .bool true, .pointer (some ⟨B, 0, none⟩), .int .i64 5, .agg #[.int .i64 5, .int .i64 p, .int .i64 q, .int .i64 u, .int .i64 v, .int .i64 c, .int .i64 i, .int .i64 x], .pointer (some ⟨B, 1, none⟩), .agg #[.int .i64 p, .int .i64 q, .int .i64 u, .int .i64 v], .agg #[.int .i64 p, .int .i64 0, .int .i64 0, .int .i64 0], .pointer (some ⟨B, 5, none⟩), .int .i64 c, .pointer (some ⟨B, 7, none⟩), .int .i64 x, .agg #[.int .i64 5, .int .i64 p, .int .i64 0, .int .i64 0, .int .i64 0, .int .i64 c, .int .i64 0, .int .i64 x], undef, undef, undef, undef, undef], defers := [] } : Act) ∧ Ft w' D 5 p 0 0 0 c 0 x ∧ Below B w w') (HI.out.next (below_drew1 V)) (fun hH => ?_) ?_
  · skip
    refine take_pure 0 (v := .pointer (some ⟨B, 0, none⟩)) rfl (by kernel_rfl) rfl (fun w' hw => by simp [execOp, go_sem]) hH ?_
    show wpAnyH _ _ _ _ _ _ _ ({ tmps := #[.agg #[.int .i64 5, .int .i64 p, .int .i64 q, .int .i64 u, .int .i64 v, .int .i64 c, .int .i64 i, .int .i64 x], .pointer (some ⟨B, 0, none⟩), .pointer (some ⟨D, 0, none⟩), .pointer (some ⟨B, 0, none⟩), .int .i64 5, undef, undef, undef, .bool false, .bool false, undef, undef, undef, undef, undef, .bool false, .bool false, undef, undef, undef, undef, undef, undef, undef, .bool true, .bool false, .bool false, .bool true, .pointer (some ⟨B, 0, none⟩), undef, undef, undef, undef, undef, undef, undef, undef, undef, undef, undef, undef, undef, undef, undef], defers := [] } : Act) _
    refine take_pure 1 (v := .int .i64 5) rfl (by kernel_rfl) rfl (fun w' hw => exec_cell _ rfl B 0 rfl _ hw.f.c0 rfl) hH ?_
    show wpAnyH _ _ _ _ _ _ _ ({ tmps := #[.agg #[.int .i64 5, .int .i64 p, .int .i64 q, .int .i64 u, .int .i64 v, .int .i64 c, .int .i64 i, .int .i64 x], .pointer (some ⟨B, 0, none⟩), .pointer (some ⟨D, 0, none⟩), .pointer (some ⟨B, 0, none⟩), .int .i64 5, undef, undef, undef, .bool false, .bool false, undef, undef, undef, undef, undef, .bool false, .bool false, undef, undef, undef, undef, undef, undef, undef, .bool true, .bool false, .bool false, .bool true, .pointer (some ⟨B, 0, none⟩), .int .i64 5, undef, undef, undef, undef, undef, undef, undef, undef, undef, undef, undef, undef, undef, undef], defers := [] } : Act) _
    refine take_pure 2 (v := .agg #[.int .i64 5, .int .i64 p, .int .i64 q, .int .i64 u, .int .i64 v, .int .i64 c, .int .i64 i, .int .i64 x]) rfl (by kernel_rfl) rfl (fun w' hw => exec_range 38 _ rfl B 0 rfl [.int .i64 5, .int .i64 p, .int .i64 q, .int .i64 u, .int .i64 v, .int .i64 c, .int .i64 i, .int .i64 x] _ hw.f.range Try.underlying38 rfl infoF) hH ?_
    show wpAnyH _ _ _ _ _ _ _ ({ tmps := #[.agg #[.int .i64 5, .int .i64 p, .int .i64 q, .int .i64 u, .int .i64 v, .int .i64 c, .int .i64 i, .int .i64 x], .pointer (some ⟨B, 0, none⟩), .pointer (some ⟨D, 0, none⟩), .pointer (some ⟨B, 0, none⟩), .int .i64 5, undef, undef, undef, .bool false, .bool false, undef, undef, undef, undef, undef, .bool false, .bool false, undef, undef, undef, undef, undef, undef, undef, .bool true, .bool false, .bool false, .bool true, .pointer (some ⟨B, 0, none⟩), .int .i64 5, .agg #[.int .i64 5, .int .i64 p, .int .i64 q, .int .i64 u, .int .i64 v, .int .i64 c, .int .i64 i, .int .i64 x], undef, undef, undef, undef, undef, undef, undef, undef, undef, undef, undef, undef, undef], defers := [] } : Act) _
    refine take_pure 3 (v := .pointer (some ⟨B, 1, none⟩)) rfl (by kernel_rfl) rfl (fun w' hw => by simp [execOp, go_sem]) hH ?_
    show wpAnyH _ _ _ _ _ _ _ ({ tmps := #[.agg #[.int .i64 5, .int .i64 p, .int .i64 q, .int .i64 u, .int .i64 v, .int .i64 c, .int .i64 i, .int .i64 x], .pointer (some ⟨B, 0, none⟩), .pointer (some ⟨D, 0, none⟩), .pointer (some ⟨B, 0, none⟩), .int .i64 5, undef, undef, undef, .bool false, .bool false, undef, undef, undef, undef, undef, .bool false, .bool false, undef, undef, undef, undef, undef, undef, undef, .bool true, .bool false, .bool false, .bool true, .pointer (some ⟨B, 0, none⟩), .int .i64 5, .agg #[.int .i64 5, .int .i64 p, .int .i64 q, .int .i64 u, .int .i64 v, .int .i64 c, .int .i64 i, .int .i64 x], .pointer (some ⟨B, 1, none⟩), undef, undef, undef, undef, undef, undef, undef, undef, undef, undef, undef, undef], defers := [] } : Act) _
    refine take_pure 4 (v := .agg #[.int .i64 p, .int .i64 q, .int .i64 u, .int .i64 v]) rfl (by kernel_rfl) rfl (fun w' hw => exec_range 36 _ rfl B 1 rfl [.int .i64 p, .int .i64 q, .int .i64 u, .int .i64 v] _ hw.f.place Try.underlying36 rfl infoP) hH ?_
    show wpAnyH _ _ _ _ _ _ _ ({ tmps := #[.agg #[.int .i64 5, .int .i64 p, .int .i64 q, .int .i64 u, .int .i64 v, .int .i64 c, .int .i64 i, .int .i64 x], .pointer (some ⟨B, 0, none⟩), .pointer (some ⟨D, 0, none⟩), .pointer (some ⟨B, 0, none⟩), .int .i64 5, undef, undef, undef, .bool false, .bool false, undef, undef, undef, undef, undef, .bool false, .bool false, undef, undef, undef, undef, undef, undef, undef, .bool true, .bool false, .bool false, .bool true, .pointer (some ⟨B, 0, none⟩), .int .i64 5, .agg #[.int .i64 5, .int .i64 p, .int .i64 q, .int .i64 u, .int .i64 v, .int .i64 c, .int .i64 i, .int .i64 x], .pointer (some ⟨B, 1, none⟩), .agg #[.int .i64 p, .int .i64 q, .int .i64 u, .int .i64 v], undef, undef, undef, undef, undef, undef, undef, undef, undef, undef, undef], defers := [] } : Act) _
    refine take_pure 6 (v := .pointer (some ⟨B, 5, none⟩)) rfl (by kernel_rfl) rfl (fun w' hw => by simp [execOp, go_sem]) hH ?_
    show wpAnyH _ _ _ _ _ _ _ ({ tmps := #[.agg #[.int .i64 5, .int .i64 p, .int .i64 q, .int .i64 u, .int .i64 v, .int .i64 c, .int .i64 i, .int .i64 x], .pointer (some ⟨B, 0, none⟩), .pointer (some ⟨D, 0, none⟩), .pointer (some ⟨B, 0, none⟩), .int .i64 5, undef, undef, undef, .bool false, .bool false, undef, undef, undef, undef, undef, .bool false, .bool false, undef, undef, undef, undef, undef, undef, undef, .bool true, .bool false, .bool false, .bool true, .pointer (some ⟨B, 0, none⟩), .int .i64 5, .agg #[.int .i64 5, .int .i64 p, .int .i64 q, .int .i64 u, .int .i64 v, .int .i64 c, .int .i64 i, .int .i64 x], .pointer (some ⟨B, 1, none⟩), .agg #[.int .i64 p, .int .i64 q, .int .i64 u, .int .i64 v], undef, .pointer (some ⟨B, 5, none⟩), undef, undef, undef, undef, undef, undef, undef, undef, undef], defers := [] } : Act) _
    refine take_pure 7 (v := .int .i64 c) rfl (by kernel_rfl) rfl (fun w' hw => exec_cell _ rfl B 5 rfl _ hw.f.c5 rfl) hH ?_
    show wpAnyH _ _ _ _ _ _ _ ({ tmps := #[.agg #[.int .i64 5, .int .i64 p, .int .i64 q, .int .i64 u, .int .i64 v, .int .i64 c, .int .i64 i, .int .i64 x], .pointer (some ⟨B, 0, none⟩), .pointer (some ⟨D, 0, none⟩), .pointer (some ⟨B, 0, none⟩), .int .i64 5, undef, undef, undef, .bool false, .bool false, undef, undef, undef, undef, undef, .bool false, .bool false, undef, undef, undef, undef, undef, undef, undef, .bool true, .bool false, .bool false, .bool true, .pointer (some ⟨B, 0, none⟩), .int .i64 5, .agg #[.int .i64 5, .int .i64 p, .int .i64 q, .int .i64 u, .int .i64 v, .int .i64 c, .int .i64 i, .int .i64 x], .pointer (some ⟨B, 1, none⟩), .agg #[.int .i64 p, .int .i64 q, .int .i64 u, .int .i64 v], undef, .pointer (some ⟨B, 5, none⟩), .int .i64 c, undef, undef, undef, undef, undef, undef, undef, undef], defers := [] } : Act) _
    refine take_pure 8 (v := .pointer (some ⟨B, 7, none⟩)) rfl (by kernel_rfl) rfl (fun w' hw => by simp [execOp, go_sem]) hH ?_
    show wpAnyH _ _ _ _ _ _ _ ({ tmps := #[.agg #[.int .i64 5, .int .i64 p, .int .i64 q, .int .i64 u, .int .i64 v, .int .i64 c, .int .i64 i, .int .i64 x], .pointer (some ⟨B, 0, none⟩), .pointer (some ⟨D, 0, none⟩), .pointer (some ⟨B, 0, none⟩), .int .i64 5, undef, undef, undef, .bool false, .bool false, undef, undef, undef, undef, undef, .bool false, .bool false, undef, undef, undef, undef, undef, undef, undef, .bool true, .bool false, .bool false, .bool true, .pointer (some ⟨B, 0, none⟩), .int .i64 5, .agg #[.int .i64 5, .int .i64 p, .int .i64 q, .int .i64 u, .int .i64 v, .int .i64 c, .int .i64 i, .int .i64 x], .pointer (some ⟨B, 1, none⟩), .agg #[.int .i64 p, .int .i64 q, .int .i64 u, .int .i64 v], undef, .pointer (some ⟨B, 5, none⟩), .int .i64 c, .pointer (some ⟨B, 7, none⟩), undef, undef, undef, undef, undef, undef, undef], defers := [] } : Act) _
    refine take_pure 9 (v := .int .i64 x) rfl (by kernel_rfl) rfl (fun w' hw => exec_cell _ rfl B 7 rfl _ hw.f.c7 rfl) hH ?_
    show wpAnyH _ _ _ _ _ _ _ ({ tmps := #[.agg #[.int .i64 5, .int .i64 p, .int .i64 q, .int .i64 u, .int .i64 v, .int .i64 c, .int .i64 i, .int .i64 x], .pointer (some ⟨B, 0, none⟩), .pointer (some ⟨D, 0, none⟩), .pointer (some ⟨B, 0, none⟩), .int .i64 5, undef, undef, undef, .bool false, .bool false, undef, undef, undef, undef, undef, .bool false, .bool false, undef, undef, undef, undef, undef, undef, undef, .bool true, .bool false, .bool false, .bool true, .pointer (some ⟨B, 0, none⟩), .int .i64 5, .agg #[.int .i64 5, .int .i64 p, .int .i64 q, .int .i64 u, .int .i64 v, .int .i64 c, .int .i64 i, .int .i64 x], .pointer (some ⟨B, 1, none⟩), .agg #[.int .i64 p, .int .i64 q, .int .i64 u, .int .i64 v], undef, .pointer (some ⟨B, 5, none⟩), .int .i64 c, .pointer (some ⟨B, 7, none⟩), .int .i64 x, undef, undef, undef, undef, undef, undef], defers := [] } : Act) _
    refine take_one 5 rfl rfl (by kernel_rfl) ?_
    refine wp_contract 54 [.tmp 30, .tmp 32] _ rfl (enters_of Try.func54 (by kernel_rfl) rfl) [.agg #[.int .i64 5, .int .i64 p, .int .i64 q, .int .i64 u, .int .i64 v, .int .i64 c, .int .i64 i, .int .i64 x], .agg #[.int .i64 p, .int .i64 q, .int .i64 u, .int .i64 v]] rfl (named_chip p q u v c i x p q u v _) ?_
    rintro e W' ⟨rfl, b1⟩
    refine ⟨_, rfl, hH.next b1, fun hH => ?_⟩
    show wpAnyH _ _ _ _ _ _ _ ({ tmps := #[.agg #[.int .i64 5, .int .i64 p, .int .i64 q, .int .i64 u, .int .i64 v, .int .i64 c, .int .i64 i, .int .i64 x], .pointer (some ⟨B, 0, none⟩), .pointer (some ⟨D, 0, none⟩), .pointer (some ⟨B, 0, none⟩), .int .i64 5, undef, undef, undef, .bool false, .bool false, undef, undef, undef, undef, undef, .bool false, .bool false, undef, undef, undef, undef, undef, undef, undef, .bool true, .bool false, .bool false, .bool true, .pointer (some ⟨B, 0, none⟩), .int .i64 5, .agg #[.int .i64 5, .int .i64 p, .int .i64 q, .int .i64 u, .int .i64 v, .int .i64 c, .int .i64 i, .int .i64 x], .pointer (some ⟨B, 1, none⟩), .agg #[.int .i64 p, .int .i64 q, .int .i64 u, .int .i64 v], .agg #[.int .i64 p, .int .i64 0, .int .i64 0, .int .i64 0], .pointer (some ⟨B, 5, none⟩), .int .i64 c, .pointer (some ⟨B, 7, none⟩), .int .i64 x, undef, undef, undef, undef, undef, undef], defers := [] } : Act) _
    refine take_pure 10 (v := .agg #[.int .i64 5, .int .i64 p, .int .i64 0, .int .i64 0, .int .i64 0, .int .i64 c, .int .i64 0, .int .i64 x]) rfl (by kernel_rfl) rfl (fun w' hw => by simp [execOp, go_sem]) hH ?_
    show wpAnyH _ _ _ _ _ _ _ ({ tmps := #[.agg #[.int .i64 5, .int .i64 p, .int .i64 q, .int .i64 u, .int .i64 v, .int .i64 c, .int .i64 i, .int .i64 x], .pointer (some ⟨B, 0, none⟩), .pointer (some ⟨D, 0, none⟩), .pointer (some ⟨B, 0, none⟩), .int .i64 5, undef, undef, undef, .bool false, .bool false, undef, undef, undef, undef, undef, .bool false, .bool false, undef, undef, undef, undef, undef, undef, undef, .bool true, .bool false, .bool false, .bool true, .pointer (some ⟨B, 0, none⟩), .int .i64 5, .agg #[.int .i64 5, .int .i64 p, .int .i64 q, .int .i64 u, .int .i64 v, .int .i64 c, .int .i64 i, .int .i64 x], .pointer (some ⟨B, 1, none⟩), .agg #[.int .i64 p, .int .i64 q, .int .i64 u, .int .i64 v], .agg #[.int .i64 p, .int .i64 0, .int .i64 0, .int .i64 0], .pointer (some ⟨B, 5, none⟩), .int .i64 c, .pointer (some ⟨B, 7, none⟩), .int .i64 x, .agg #[.int .i64 5, .int .i64 p, .int .i64 0, .int .i64 0, .int .i64 0, .int .i64 c, .int .i64 0, .int .i64 x], undef, undef, undef, undef, undef], defers := [] } : Act) _
    obtain ⟨FD, hFD⟩ := hH.r
    refine take_one 11 rfl rfl (by kernel_rfl) ?_
    refine wp_store_mid 38 _ _ rfl D 0 #[.int .i64 5, .int .i64 p, .int .i64 0, .int .i64 0, .int .i64 0, .int .i64 c, .int .i64 0, .int .i64 x] rfl rfl (Bk.there hFD .i64 (ffn 5 p 0 0 0 c 0 x)) infoF (one8 5 p 0 0 0 c 0 x) ?_
    exact ⟨⟨Bk.putOther hH.f (Ne.symm hH.n) 0 _, ⟨_, Bk.put hFD (ffn 5 p 0 0 0 c 0 x)⟩, hH.n, belows_put lD _ 0 hH.b⟩, fun _ => wpAnyH_done (by kernel_rfl) ⟨rfl, Bk.put hFD (ffn 5 p 0 0 0 c 0 x), belows_put lD _ 0 hH.b⟩ _⟩
  rintro a' W2 ⟨rfl, h2⟩
  have e2 : Hid (Ft W2 D 5 p 0 0 0 c 0 x ∧ Below B w W2) := h2
  clear c0 c5 c6 c7 HI h2
  go_wp2
  have hs := e2.out.1.range
  have hld := run_loadVar_mid (P := Try.prog) W2 D 0 38 [.int .i64 5, .int .i64 p, .int .i64 0, .int .i64 0, .int .i64 0, .int .i64 c, .int .i64 0, .int .i64 x] _ hs Try.underlying38 rfl infoF
  refine bodyPost_ret (v := .agg #[.int .i64 5, .int .i64 p, .int .i64 0, .int .i64 0, .int .i64 0, .int .i64 c, .int .i64 0, .int .i64 x]) ?_ rfl ⟨rfl, by rw [hB]; exact e2.out.2⟩
  simp [results, Try.f59, asAddr, hld]
set_option maxRecDepth 100000 in
set_option maxHeartbeats 2000000 in
theorem own_rest (k p q u v c i x : Int) (h1 : (k == 1) = false) (h2 : (k == 2) = false) (h3 : (k == 3) = false) (h4 : (k == 4) = false) (h5 : (k == 5) = false) (h6 : (k == 6) = false) (w : World) :
    Calls Try.prog 59 #[.agg #[.int .i64 k, .int .i64 p, .int .i64 q, .int .i64 u, .int .i64 v, .int .i64 c, .int .i64 i, .int .i64 x]] w fun e w' => e = .returned (.agg #[.int .i64 k, .int .i64 0, .int .i64 0, .int .i64 0, .int .i64 0, .int .i64 0, .int .i64 0, .int .i64 0]) ∧ Below w.heap.size w w' := by
  go_enter Try.func59, Try.ntmps59
  go_upto_region 1 with (fail)
  obtain ⟨V, hV⟩ : ∃ V, (w.alloc (.cells #[.int .i64 k, .int .i64 p, .int .i64 q, .int .i64 u, .int .i64 v, .int .i64 c, .int .i64 i, .int .i64 x] 38)).alloc (.cells #[.int .i64 0, .int .i64 0, .int .i64 0, .int .i64 0, .int .i64 0, .int .i64 0, .int .i64 0, .int .i64 0] 38) = V := ⟨_, rfl⟩
  have HI : Hid (Ow11 w.heap.size (w.heap.size + 1) k p q u v c i x w V) := by
    rw [← hV]
    have h1 := Ft.new (w.alloc (.cells #[.int .i64 k, .int .i64 p, .int .i64 q, .int .i64 u, .int .i64 v, .int .i64 c, .int .i64 i, .int .i64 x] 38)) 0 0 0 0 0 0 0 0 38
    simp only [World.size_alloc] at h1
    exact ⟨(Ft.new w k p q u v c i x _).alloc _, ⟨_, h1⟩, by omega, ((Below.refl _ w).alloc (Nat.le_refl _) _).alloc (by simp) _⟩
  obtain ⟨B, hB⟩ : ∃ B, w.heap.size = B := ⟨_, rfl⟩
  obtain ⟨D, hD⟩ : ∃ D, B + 1 = D := ⟨_, rfl⟩
  rw [hV]
  rw [hB, hD] at HI ⊢
  have lD : B ≤ D := by omega
  clear hV hD
  have c0 := HI.out.f.c0; have c5 := HI.out.f.c5; have c6 := HI.out.f.c6; have c7 := HI.out.f.c7
  have hr := HI.out.f.place
  obtain ⟨FD, hFD⟩ := HI.out.r
  have ht : V.there D 0 8 := Bk.there hFD .i64 (ffn k 0 0 0 0 0 0 0)
  obtain ⟨W2, hW2⟩ : ∃ W2, V.setCells D 0 [.int .i64 k, .int .i64 0, .int .i64 0, .int .i64 0, .int .i64 0, .int .i64 0, .int .i64 0, .int .i64 0] = W2 := ⟨_, rfl⟩
  have e2 : Hid (Ft W2 D k 0 0 0 0 0 0 0 ∧ Below B w W2) := by rw [← hW2]; exact ⟨Bk.put hFD (ffn k 0 0 0 0 0 0 0), belows_put lD _ 0 HI.out.b⟩
  go_wp2_with (first | refine wpList_load_mid rfl 36 _ rfl B 1 rfl [.int .i64 p, .int .i64 q, .int .i64 u, .int .i64 v] _ hr Try.underlying36 rfl infoP ?_ | refine wpList_store_mid rfl 38 _ _ rfl D 0 #[.int .i64 k, .int .i64 0, .int .i64 0, .int .i64 0, .int .i64 0, .int .i64 0, .int .i64 0, .int .i64 0] rfl rfl ht infoF (one8 k 0 0 0 0 0 0 0) ?_)
  rw [hW2]
  have hs := e2.out.1.range
  have hld := run_loadVar_mid (P := Try.prog) W2 D 0 38 [.int .i64 k, .int .i64 0, .int .i64 0, .int .i64 0, .int .i64 0, .int .i64 0, .int .i64 0, .int .i64 0] _ hs Try.underlying38 rfl infoF
  refine bodyPost_ret (v := .agg #[.int .i64 k, .int .i64 0, .int .i64 0, .int .i64 0, .int .i64 0, .int .i64 0, .int .i64 0, .int .i64 0]) ?_ rfl ⟨rfl, by rw [hB]; exact e2.out.2⟩
  simp [results, Try.f59, Act.put, asAddr, hld]
end Go.Proofs.Ytcpjmfemgdgplaa
