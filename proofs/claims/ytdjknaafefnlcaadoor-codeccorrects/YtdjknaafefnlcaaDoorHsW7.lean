/-
  New: the columns are laid.
-/
import Derived.Test.YtdjknaafefnlcaaDoorHsW6
import Derived.Laws.CopyOwn
import Derived.Deep.RegionHeld3
namespace Go.Proofs.YtdjknaafefnlcaaDoor
open Go.RowKit Go.Shelf
open Bm (wt wtK cntW)
open Hm (col onesOf nOf idx kd pl xs ap syn)
attribute [local go_sem] Oper.semAt_some

/-- the words that New lays, and where -/
def W56 : List Value := bytesV (firsts 56 3)
def W8 : List Value := bytesV (firsts 8 1)
def W10 : List Value := bytesV (firsts 10 5)
def L0 : List Value := List.replicate 74 (.int .u8 0)
theorem L0_arr : L0.toArray = stageC 0 := by kernel_rfl
theorem cnt3 : 56 ≤ cntW (3 : Nat) 256 := by decide +kernel
theorem cnt1 : 8 ≤ cntW (1 : Nat) 256 := by decide +kernel
theorem cnt5 : 10 ≤ cntW (5 : Nat) 256 := by decide +kernel
theorem len56 : W56.length = 56 := by kernel_rfl
theorem len8 : W8.length = 8 := by kernel_rfl
theorem len10 : W10.length = 10 := by kernel_rfl
theorem laid_all : splice (splice (splice (splice L0 0 W56) 64 W8) 56 (W10.take 8)) 72 (W10.drop 8) = colsL := by kernel_rfl
theorem bytesV_one (l : List Nat) : ∀ v ∈ bytesV l, v.oneCell' = true := by
  intro v hv
  obtain ⟨x, _, rfl⟩ := List.mem_map.1 hv
  rfl
theorem first56 (w : World) : Calls Tryd.prog 56 #[.int .i64 56, .int .i64 3] w fun e w' =>
    e = .returned (.slice (some ⟨w.heap.size + 1, 0, none⟩) 56 56) ∧ w'.ownsRow w.heap.size 5 1 (.slice (some ⟨w.heap.size + 1, 0, none⟩) 56 56) 56 W56 ∧ Below w.heap.size w w' := first_any 56 3 (by decide) (by decide) cnt3 w
theorem first8 (w : World) : Calls Tryd.prog 56 #[.int .i64 8, .int .i64 1] w fun e w' =>
    e = .returned (.slice (some ⟨w.heap.size + 1, 0, none⟩) 8 8) ∧ w'.ownsRow w.heap.size 5 1 (.slice (some ⟨w.heap.size + 1, 0, none⟩) 8 8) 8 W8 ∧ Below w.heap.size w w' := first_any 8 1 (by decide) (by decide) cnt1 w
theorem first10 (w : World) : Calls Tryd.prog 56 #[.int .i64 10, .int .i64 5] w fun e w' =>
    e = .returned (.slice (some ⟨w.heap.size + 1, 0, none⟩) 10 10) ∧ w'.ownsRow w.heap.size 5 1 (.slice (some ⟨w.heap.size + 1, 0, none⟩) 10 10) 10 W10 ∧ Below w.heap.size w w' := first_any 10 5 (by decide) (by decide) cnt5 w
theorem zero_code (w : World) : (zeroValue 102).run Tryd.prog w = .ok (.agg (stageC 0)) w := by kernel_rfl
theorem size4_u8 : (Tryd.prog.info? 5).map (·.size) = some 1 := by kernel_rfl

/-- a copy between two blocks, as one step of a region that draws its order: all other blocks stand -/
theorem step_copy_row {P : Program} {ops : Array Oper} {o : Oper} {a : Act} {w : World} {K : Act → World → Prop} {Q : Exit → Act → World → Prop} {E : Prop} (hgd : o.guard = none) (d s : Operand) (dT sT : TypeId)
    (ho : o.op = .call { callee := .builtin .copy, args := #[d, s], argTypes := #[dT, sT] }) (elem : TypeId) (hu : P.underlying dT = some (.slice elem)) (hsz : (P.info? elem).map (·.size) = some 1)
    (g off dLen dCap : Nat) (ad : Addr) (sLen sCap : Nat) (hd : a.eval d = .slice (some ⟨g, off, none⟩) dLen dCap) (hs : a.eval s = .slice (some ad) sLen sCap)
    (cur : List Value) (t : TypeId) (hg : w.heap[g]? = some (.cells cur.toArray t (0, 0))) (cs : List Value) (hn : cs.length = Nat.min sLen dLen)
    (hsrc : ∀ j v, cs[j]? = some v → w.cell? (ad.add j) = some v) (hfit : off + cs.length ≤ cur.length) (h1 : ∀ v ∈ cs, v.oneCell' = true) (B : Nat) (w0 : World) (hb : Below B w0 w) (hBg : B ≤ g)
    (h : ∀ w', Hid (w'.heap[g]? = some (.cells (splice cur off cs).toArray t (0, 0))) → Hid (∀ k, k ≠ g → w'.heap[k]? = w.heap[k]?) → Below B w0 w' → K (a.put o.dst (goInt cs.length)) w') :
    if Region.wanted o (yielded ops a.tmps) = true then Oper.wp P o a w K Q else E := by
  have hw : Region.wanted o (yielded ops a.tmps) = true := by simp [Region.wanted, hgd]
  rw [if_pos hw]
  have hrun := run_copy_row (P := P) w dT sT o.type elem g off dLen dCap ad sLen sCap cur.toArray t cs hu hsz hg hn hsrc (by simpa using hfit) h1
  unfold Oper.wp
  simp [execOp, ho, resolve, invoke, builtin, hd, hs, hrun, Result.andThen]
  refine h _ (show _ = _ from ?_) (fun k hk => setRow_other w g k _ hk) (below_setRow hb hBg _)
  rw [setRow_heap w g _ _ t _ hg]; simp [splice]

set_option maxRecDepth 100000 in
set_option maxHeartbeats 2000000 in
theorem new4_any (w : World) :
    Calls Tryd.prog 26 #[] w fun e w' => e = .returned (.pointer (some ⟨w.heap.size, 0, none⟩)) ∧ CodeAt w' w.heap.size ∧ Below w.heap.size w w' := by
  have hz := zero_code
  go_enter Tryd.func26, Tryd.ntmps26
  go_wp2
  obtain ⟨B, hB⟩ : ∃ B, w.heap.size = B := ⟨_, rfl⟩
  obtain ⟨V0, hV0⟩ : ∃ V0, w.alloc (.cells (stageC 0) 102) = V0 := ⟨_, rfl⟩
  obtain ⟨z0, hz0⟩ : ∃ z0, stageC 0 = z0 := ⟨_, rfl⟩
  obtain ⟨X0, hX0⟩ : ∃ X0, L0 = X0 := ⟨_, rfl⟩
  obtain ⟨X1, hX1⟩ : ∃ X1, W56 = X1 := ⟨_, rfl⟩
  obtain ⟨X2, hX2⟩ : ∃ X2, W8 = X2 := ⟨_, rfl⟩
  obtain ⟨X3, hX3⟩ : ∃ X3, W10 = X3 := ⟨_, rfl⟩
  have HX : Hid (splice (splice (splice (splice X0 0 X1) 64 X2) 56 (X3.take 8)) 72 (X3.drop 8) = colsL) := by rw [← hX0, ← hX1, ← hX2, ← hX3]; exact laid_all
  have g0 : Hid (V0.heap[B]? = some (.cells X0.toArray 102 (0, 0))) := by
    show _ = _
    rw [← hV0, ← hB, ← hX0, World.alloc_heap_new, L0_arr]
  have l0 : X0.length = 74 := by rw [← hX0]; simp [L0]
  have l1 : X1.length = 56 := by rw [← hX1]; exact len56
  have l2 : X2.length = 8 := by rw [← hX2]; exact len8
  have l3 : X3.length = 10 := by rw [← hX3]; exact len10
  have o1 : Hid (∀ v ∈ X1, v.oneCell' = true) := by rw [← hX1]; exact bytesV_one _
  have o2 : Hid (∀ v ∈ X2, v.oneCell' = true) := by rw [← hX2]; exact bytesV_one _
  have o3 : Hid (∀ v ∈ X3, v.oneCell' = true) := by rw [← hX3]; exact bytesV_one _
  have b0 : Below B w V0 := by rw [← hV0, ← hB]; exact (Below.refl _ w).alloc (Nat.le_refl _) _
  have s0 : B < V0.heap.size := by rw [← hV0, ← hB]; simp
  have c1 : Hid (∀ w, Calls Tryd.prog 56 #[.int .i64 56, .int .i64 3] w fun e w' =>
    e = .returned (.slice (some ⟨w.heap.size + 1, 0, none⟩) 56 56) ∧ w'.ownsRow w.heap.size 5 1 (.slice (some ⟨w.heap.size + 1, 0, none⟩) 56 56) 56 X1 ∧ Below w.heap.size w w') := by rw [← hX1]; exact first56
  have c2 : Hid (∀ w, Calls Tryd.prog 56 #[.int .i64 8, .int .i64 1] w fun e w' =>
    e = .returned (.slice (some ⟨w.heap.size + 1, 0, none⟩) 8 8) ∧ w'.ownsRow w.heap.size 5 1 (.slice (some ⟨w.heap.size + 1, 0, none⟩) 8 8) 8 X2 ∧ Below w.heap.size w w') := by rw [← hX2]; exact first8
  have c3 : Hid (∀ w, Calls Tryd.prog 56 #[.int .i64 10, .int .i64 5] w fun e w' =>
    e = .returned (.slice (some ⟨w.heap.size + 1, 0, none⟩) 10 10) ∧ w'.ownsRow w.heap.size 5 1 (.slice (some ⟨w.heap.size + 1, 0, none⟩) 10 10) 10 X3 ∧ Below w.heap.size w w') := by rw [← hX3]; exact first10
  rw [hV0, hz0, hB]
  clear hV0 hX0 hX1 hX2 hX3 hz hz0
  go_region_held3 (fun _ => True) (trivial)
    (first | (go_at_call 56; refine (c1.out _).mono ?_; rintro e V1 ⟨rfl, own1, bel1⟩)
           | (refine step_copy_splice rfl (.tmp 9) (.tmp 10) 52 52 rfl 5 Tryd.underlying52 size4_u8 (some ⟨B, 0, none⟩) (some ⟨V0.heap.size + 1, 0, none⟩) 56 74 56 56 rfl rfl B 0 X0 102 ((bel1.block B s0).trans g0.out) X1 l1 (fun _ => ⟨rfl, _, rfl, own1.cells rfl⟩) (by omega) o1.out B w ((below_drewN b0 1).trans (bel1.mono (by simp; omega))) (Nat.le_refl _) ?_; intro V2 g2 b2))
  have s2 : B < V2.heap.size := (Array.getElem?_eq_some_iff.1 g2.out).1
  have l5 : (splice X0 0 X1).length = 74 := by rw [length_splice _ _ _ (by omega)]; exact l0
  obtain ⟨Y1, hY1⟩ : ∃ Y1, splice X0 0 X1 = Y1 := ⟨_, rfl⟩
  rw [hY1] at g2 HX l5
  clear g0 own1 bel1 b0 s0 c1 hY1 o1 l1 l0
  go_wp2
  go_region_held3 (fun _ => True) (trivial)
    (first | (go_at_call 56; refine (c2.out _).mono ?_; rintro e V3 ⟨rfl, own1, bel1⟩)
           | (refine step_copy_splice rfl (.tmp 15) (.tmp 16) 52 52 rfl 5 Tryd.underlying52 size4_u8 (some ⟨B, 64, none⟩) (some ⟨V2.heap.size + 1, 0, none⟩) 8 10 8 8 rfl rfl B 64 Y1 102 ((bel1.block B s2).trans g2.out) X2 l2 (fun _ => ⟨rfl, _, rfl, own1.cells rfl⟩) (by omega) o2.out B w ((below_drewN b2 1).trans (bel1.mono (by simp; omega))) (Nat.le_refl _) ?_; intro V4 g4 b4))
  have s4 : B < V4.heap.size := (Array.getElem?_eq_some_iff.1 g4.out).1
  have l6 : (splice Y1 64 X2).length = 74 := by rw [length_splice _ _ _ (by omega)]; exact l5
  obtain ⟨Y2, hY2⟩ : ∃ Y2, splice Y1 64 X2 = Y2 := ⟨_, rfl⟩
  rw [hY2] at g4 HX l6
  clear g2 own1 bel1 b2 s2 c2 hY2 o2 l2 l5
  go_wp2_with (go_at_call 56; refine (c3.out _).mono ?_; rintro e V5 ⟨rfl, own1, bel1⟩)
  have g5 : Hid (V5.heap[B]? = some (.cells Y2.toArray 102 (0, 0))) := (bel1.block B s4).trans g4.out
  have b5 : Below B w V5 := b4.trans (bel1.mono (by omega))
  obtain ⟨G, hG⟩ : ∃ G, V4.heap.size + 1 = G := ⟨_, rfl⟩
  rw [hG] at own1 ⊢
  have src : Hid (∀ j v, X3[j]? = some v → V5.cell? ⟨G, j, none⟩ = some v) := fun j v hj => by
    have := own1.cells rfl j v hj
    rw [Addr.add_mid, Nat.zero_add] at this; exact this
  have hGB : G ≠ B := by omega
  have s5 : G < V5.heap.size := (own1.lt _ rfl).2
  clear g4 own1 bel1 b4 c3
  obtain ⟨T8, hT8⟩ : ∃ T8, X3.take 8 = T8 := ⟨_, rfl⟩
  obtain ⟨D8, hD8⟩ : ∃ D8, X3.drop 8 = D8 := ⟨_, rfl⟩
  have t1 : T8.length = 8 := by rw [← hT8]; simp; omega
  have t2 : D8.length = 2 := by rw [← hD8]; simp; omega
  have oT : Hid (∀ v ∈ T8, v.oneCell' = true) := fun v hv => o3.out v (by rw [← hT8] at hv; exact List.mem_of_mem_take hv)
  have oD : Hid (∀ v ∈ D8, v.oneCell' = true) := fun v hv => o3.out v (by rw [← hD8] at hv; exact List.mem_of_mem_drop hv)
  have srcT : Hid (∀ j v, T8[j]? = some v → V5.drew.cell? ((⟨G, 0, none⟩ : Addr).add j) = some v) := fun j v hj => by
    have hj8 : j < 8 := by rw [← t1]; exact (List.getElem?_eq_some_iff.1 hj).1
    rw [Addr.add_mid, Nat.zero_add]
    refine src.out j v ?_
    rw [← hT8, List.getElem?_take, if_pos hj8] at hj; exact hj
  have srcD : Hid (∀ j v, D8[j]? = some v → V5.cell? ⟨G, 8 + j, none⟩ = some v) := fun j v hj => by
    refine src.out (8 + j) v ?_
    rw [← hD8, List.getElem?_drop] at hj; exact hj
  rw [hT8, hD8] at HX
  clear src hT8 hD8 o3 l3
  go_wp2
  go_region_held3 (fun _ => True) (trivial)
    (first | (refine step_copy_row rfl (.tmp 25) (.tmp 28) 52 52 rfl 5 Tryd.underlying52 size4_u8 B 56 8 18 ⟨G, 0, none⟩ 8 10 rfl rfl Y2 102 g5.out T8 t1 srcT.out (by omega) oT.out B w (below_drewN b5 1) (Nat.le_refl _) ?_; intro V6 g6 k6 b6))
  have srcE : Hid (∀ j v, D8[j]? = some v → V6.drew.cell? ((⟨G, 8, none⟩ : Addr).add j) = some v) := fun j v hj => by
    rw [Addr.add_mid]
    exact (World.cell?_of_block (w := V5) (a := ⟨G, 8 + j, none⟩) (k6.out G hGB)).trans (srcD.out j v hj)
  have l7 : (splice Y2 56 T8).length = 74 := by rw [length_splice _ _ _ (by omega)]; exact l6
  obtain ⟨Y3, hY3⟩ : ∃ Y3, splice Y2 56 T8 = Y3 := ⟨_, rfl⟩
  rw [hY3] at g6 HX l7
  clear srcD srcT k6 g5 b5 hY3 oT t1 l6
  go_wp2
  go_region_held3 (fun _ => True) (trivial)
    (first | (refine step_copy_row rfl (.tmp 33) (.tmp 36) 52 52 rfl 5 Tryd.underlying52 size4_u8 B 72 2 2 ⟨G, 8, none⟩ 2 2 rfl rfl Y3 102 g6.out D8 t2 srcE.out (by omega) oD.out B w (below_drewN b6 1) (Nat.le_refl _) ?_; intro V7 g7 k7 b7))
  have hc : CodeAt V7 B := fun i hi => by
    have h := g7.out
    rw [HX.out] at h
    rw [cell_of_row _ _ i _ _ (0, 0) h]
    simpa using colsL_at i hi
  clear k7 g7 HX
  go_wp2
  go_ret
  exact ⟨by rw [hB]; rfl, by rw [hB]; exact hc, by rw [hB]; exact b7⟩
end Go.Proofs.YtdjknaafefnlcaaDoor
