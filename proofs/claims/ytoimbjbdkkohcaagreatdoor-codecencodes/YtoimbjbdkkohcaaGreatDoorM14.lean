/-
  Texts of one family, one behind another: HsW7, HsW8, HsL1, RangeA, CoW4.
-/
import Derived.Test.YtoimbjbdkkohcaaGreatDoorM13
import Derived.Laws.CopyOwn
import Derived.Deep.RegionHeld3
import Derived.Test.YtoimbjbdkkohcaaGreatDoorM01

/-
  New: the columns are laid.
-/
namespace Go.Proofs.YtoimbjbdkkohcaaGreatDoor
open Go.RowKit Go.Shelf
open Bm (wt wtK cntW)
open Hm (col onesOf nOf idx kd pl xs ap syn)
attribute [local go_sem] Oper.semAt_some

/-- the words that New lays, and where -/
def W56 : List Value := bytesV (firsts 56 3)
def W8 : List Value := bytesV (firsts 8 1)
def W10 : List Value := bytesV (firsts 10 5)
def L0 : List Value := List.replicate 74 (.int .u8 0)
theorem L0_arr : L0.toArray = stageC 0 := by kernel_rfl
theorem cnt3 : 56 ≤ cntW (3 : Nat) 256 := by decide +kernel
theorem cnt1 : 8 ≤ cntW (1 : Nat) 256 := by decide +kernel
theorem cnt5 : 10 ≤ cntW (5 : Nat) 256 := by decide +kernel
theorem len56 : W56.length = 56 := by kernel_rfl
theorem len8 : W8.length = 8 := by kernel_rfl
theorem len10 : W10.length = 10 := by kernel_rfl
theorem laid_all : splice (splice (splice (splice L0 0 W56) 64 W8) 56 (W10.take 8)) 72 (W10.drop 8) = colsL := by kernel_rfl
theorem bytesV_one (l : List Nat) : ∀ v ∈ bytesV l, v.oneCell' = true := by
  intro v hv
  obtain ⟨x, _, rfl⟩ := List.mem_map.1 hv
  rfl
theorem first56 (w : World) : Calls Tryz.prog 56 #[.int .i64 56, .int .i64 3] w fun e w' =>
    e = .returned (.slice (some ⟨w.heap.size + 1, 0, none⟩) 56 56) ∧ w'.ownsRow w.heap.size 5 1 (.slice (some ⟨w.heap.size + 1, 0, none⟩) 56 56) 56 W56 ∧ Below w.heap.size w w' := first_any 56 3 (by decide) (by decide) cnt3 w
theorem first8 (w : World) : Calls Tryz.prog 56 #[.int .i64 8, .int .i64 1] w fun e w' =>
    e = .returned (.slice (some ⟨w.heap.size + 1, 0, none⟩) 8 8) ∧ w'.ownsRow w.heap.size 5 1 (.slice (some ⟨w.heap.size + 1, 0, none⟩) 8 8) 8 W8 ∧ Below w.heap.size w w' := first_any 8 1 (by decide) (by decide) cnt1 w
theorem first10 (w : World) : Calls Tryz.prog 56 #[.int .i64 10, .int .i64 5] w fun e w' =>
    e = .returned (.slice (some ⟨w.heap.size + 1, 0, none⟩) 10 10) ∧ w'.ownsRow w.heap.size 5 1 (.slice (some ⟨w.heap.size + 1, 0, none⟩) 10 10) 10 W10 ∧ Below w.heap.size w w' := first_any 10 5 (by decide) (by decide) cnt5 w
theorem zero_code (w : World) : (zeroValue 113).run Tryz.prog w = .ok (.agg (stageC 0)) w := by kernel_rfl
theorem size4_u8 : (Tryz.prog.info? 5).map (·.size) = some 1 := by kernel_rfl

/-- a copy between two blocks, as one step of a region that draws its order: all other blocks stand -/
theorem step_copy_row {P : Program} {ops : Array Oper} {o : Oper} {a : Act} {w : World} {K : Act → World → Prop} {Q : Exit → Act → World → Prop} {E : Prop} (hgd : o.guard = none) (d s : Operand) (dT sT : TypeId)
    (ho : o.op = .call { callee := .builtin .copy, args := #[d, s], argTypes := #[dT, sT] }) (elem : TypeId) (hu : P.underlying dT = some (.slice elem)) (hsz : (P.info? elem).map (·.size) = some 1)
    (g off dLen dCap : Nat) (ad : Addr) (sLen sCap : Nat) (hd : a.eval d = .slice (some ⟨g, off, none⟩) dLen dCap) (hs : a.eval s = .slice (some ad) sLen sCap)
    (cur : List Value) (t : TypeId) (hg : w.heap[g]? = some (.cells cur.toArray t (0, 0))) (cs : List Value) (hn : cs.length = Nat.min sLen dLen)
    (hsrc : ∀ j v, cs[j]? = some v → w.cell? (ad.add j) = some v) (hfit : off + cs.length ≤ cur.length) (h1 : ∀ v ∈ cs, v.oneCell' = true) (B : Nat) (w0 : World) (hb : Below B w0 w) (hBg : B ≤ g)
    (h : ∀ w', Hid (w'.heap[g]? = some (.cells (splice cur off cs).toArray t (0, 0))) → Hid (∀ k, k ≠ g → w'.heap[k]? = w.heap[k]?) → Below B w0 w' → K (a.put o.dst (goInt cs.length)) w') :
    if Region.wanted o (yielded ops a.tmps) = true then Oper.wp P o a w K Q else E := by
  have hw : Region.wanted o (yielded ops a.tmps) = true := by simp [Region.wanted, hgd]
  rw [if_pos hw]
  have hrun := run_copy_row (P := P) w dT sT o.type elem g off dLen dCap ad sLen sCap cur.toArray t cs hu hsz hg hn hsrc (by simpa using hfit) h1
  unfold Oper.wp
  simp [execOp, ho, resolve, invoke, builtin, hd, hs, hrun, Result.andThen]
  refine h _ (show _ = _ from ?_) (fun k hk => setRow_other w g k _ hk) (below_setRow hb hBg _)
  rw [setRow_heap w g _ _ t _ hg]; simp [splice]

set_option maxRecDepth 100000 in
set_option maxHeartbeats 2000000 in
theorem new4_any (w : World) :
    Calls Tryz.prog 28 #[] w fun e w' => e = .returned (.pointer (some ⟨w.heap.size, 0, none⟩)) ∧ CodeAt w' w.heap.size ∧ Below w.heap.size w w' := by
  have hz := zero_code
  go_enter Tryz.func28, Tryz.ntmps28
  go_wp2
  obtain ⟨B, hB⟩ : ∃ B, w.heap.size = B := ⟨_, rfl⟩
  obtain ⟨V0, hV0⟩ : ∃ V0, w.alloc (.cells (stageC 0) 113) = V0 := ⟨_, rfl⟩
  obtain ⟨z0, hz0⟩ : ∃ z0, stageC 0 = z0 := ⟨_, rfl⟩
  obtain ⟨X0, hX0⟩ : ∃ X0, L0 = X0 := ⟨_, rfl⟩
  obtain ⟨X1, hX1⟩ : ∃ X1, W56 = X1 := ⟨_, rfl⟩
  obtain ⟨X2, hX2⟩ : ∃ X2, W8 = X2 := ⟨_, rfl⟩
  obtain ⟨X3, hX3⟩ : ∃ X3, W10 = X3 := ⟨_, rfl⟩
  have HX : Hid (splice (splice (splice (splice X0 0 X1) 64 X2) 56 (X3.take 8)) 72 (X3.drop 8) = colsL) := by rw [← hX0, ← hX1, ← hX2, ← hX3]; exact laid_all
  have g0 : Hid (V0.heap[B]? = some (.cells X0.toArray 113 (0, 0))) := by
    show _ = _
    rw [← hV0, ← hB, ← hX0, World.alloc_heap_new, L0_arr]
  have l0 : X0.length = 74 := by rw [← hX0]; simp [L0]
  have l1 : X1.length = 56 := by rw [← hX1]; exact len56
  have l2 : X2.length = 8 := by rw [← hX2]; exact len8
  have l3 : X3.length = 10 := by rw [← hX3]; exact len10
  have o1 : Hid (∀ v ∈ X1, v.oneCell' = true) := by rw [← hX1]; exact bytesV_one _
  have o2 : Hid (∀ v ∈ X2, v.oneCell' = true) := by rw [← hX2]; exact bytesV_one _
  have o3 : Hid (∀ v ∈ X3, v.oneCell' = true) := by rw [← hX3]; exact bytesV_one _
  have b0 : Below B w V0 := by rw [← hV0, ← hB]; exact (Below.refl _ w).alloc (Nat.le_refl _) _
  have s0 : B < V0.heap.size := by rw [← hV0, ← hB]; simp
  have c1 : Hid (∀ w, Calls Tryz.prog 56 #[.int .i64 56, .int .i64 3] w fun e w' =>
    e = .returned (.slice (some ⟨w.heap.size + 1, 0, none⟩) 56 56) ∧ w'.ownsRow w.heap.size 5 1 (.slice (some ⟨w.heap.size + 1, 0, none⟩) 56 56) 56 X1 ∧ Below w.heap.size w w') := by rw [← hX1]; exact first56
  have c2 : Hid (∀ w, Calls Tryz.prog 56 #[.int .i64 8, .int .i64 1] w fun e w' =>
    e = .returned (.slice (some ⟨w.heap.size + 1, 0, none⟩) 8 8) ∧ w'.ownsRow w.heap.size 5 1 (.slice (some ⟨w.heap.size + 1, 0, none⟩) 8 8) 8 X2 ∧ Below w.heap.size w w') := by rw [← hX2]; exact first8
  have c3 : Hid (∀ w, Calls Tryz.prog 56 #[.int .i64 10, .int .i64 5] w fun e w' =>
    e = .returned (.slice (some ⟨w.heap.size + 1, 0, none⟩) 10 10) ∧ w'.ownsRow w.heap.size 5 1 (.slice (some ⟨w.heap.size + 1, 0, none⟩) 10 10) 10 X3 ∧ Below w.heap.size w w') := by rw [← hX3]; exact first10
  rw [hV0, hz0, hB]
  clear hV0 hX0 hX1 hX2 hX3 hz hz0
  go_region_held3 (fun _ => True) (trivial)
    (first | (go_at_call 56; refine (c1.out _).mono ?_; rintro e V1 ⟨rfl, own1, bel1⟩)
           | (refine step_copy_splice rfl (.tmp 9) (.tmp 10) 69 69 rfl 5 Tryz.underlying69 size4_u8 (some ⟨B, 0, none⟩) (some ⟨V0.heap.size + 1, 0, none⟩) 56 74 56 56 rfl rfl B 0 X0 113 ((bel1.block B s0).trans g0.out) X1 l1 (fun _ => ⟨rfl, _, rfl, own1.cells rfl⟩) (by omega) o1.out B w ((below_drewN b0 1).trans (bel1.mono (by simp; omega))) (Nat.le_refl _) ?_; intro V2 g2 b2))
  have s2 : B < V2.heap.size := (Array.getElem?_eq_some_iff.1 g2.out).1
  have l5 : (splice X0 0 X1).length = 74 := by rw [length_splice _ _ _ (by omega)]; exact l0
  obtain ⟨Y1, hY1⟩ : ∃ Y1, splice X0 0 X1 = Y1 := ⟨_, rfl⟩
  rw [hY1] at g2 HX l5
  clear g0 own1 bel1 b0 s0 c1 hY1 o1 l1 l0
  go_wp2
  go_region_held3 (fun _ => True) (trivial)
    (first | (go_at_call 56; refine (c2.out _).mono ?_; rintro e V3 ⟨rfl, own1, bel1⟩)
           | (refine step_copy_splice rfl (.tmp 15) (.tmp 16) 69 69 rfl 5 Tryz.underlying69 size4_u8 (some ⟨B, 64, none⟩) (some ⟨V2.heap.size + 1, 0, none⟩) 8 10 8 8 rfl rfl B 64 Y1 113 ((bel1.block B s2).trans g2.out) X2 l2 (fun _ => ⟨rfl, _, rfl, own1.cells rfl⟩) (by omega) o2.out B w ((below_drewN b2 1).trans (bel1.mono (by simp; omega))) (Nat.le_refl _) ?_; intro V4 g4 b4))
  have s4 : B < V4.heap.size := (Array.getElem?_eq_some_iff.1 g4.out).1
  have l6 : (splice Y1 64 X2).length = 74 := by rw [length_splice _ _ _ (by omega)]; exact l5
  obtain ⟨Y2, hY2⟩ : ∃ Y2, splice Y1 64 X2 = Y2 := ⟨_, rfl⟩
  rw [hY2] at g4 HX l6
  clear g2 own1 bel1 b2 s2 c2 hY2 o2 l2 l5
  go_wp2_with (go_at_call 56; refine (c3.out _).mono ?_; rintro e V5 ⟨rfl, own1, bel1⟩)
  have g5 : Hid (V5.heap[B]? = some (.cells Y2.toArray 113 (0, 0))) := (bel1.block B s4).trans g4.out
  have b5 : Below B w V5 := b4.trans (bel1.mono (by omega))
  obtain ⟨G, hG⟩ : ∃ G, V4.heap.size + 1 = G := ⟨_, rfl⟩
  rw [hG] at own1 ⊢
  have src : Hid (∀ j v, X3[j]? = some v → V5.cell? ⟨G, j, none⟩ = some v) := fun j v hj => by
    have := own1.cells rfl j v hj
    rw [Addr.add_mid, Nat.zero_add] at this; exact this
  have hGB : G ≠ B := by omega
  have s5 : G < V5.heap.size := (own1.lt _ rfl).2
  clear g4 own1 bel1 b4 c3
  obtain ⟨T8, hT8⟩ : ∃ T8, X3.take 8 = T8 := ⟨_, rfl⟩
  obtain ⟨D8, hD8⟩ : ∃ D8, X3.drop 8 = D8 := ⟨_, rfl⟩
  have t1 : T8.length = 8 := by rw [← hT8]; simp; omega
  have t2 : D8.length = 2 := by rw [← hD8]; simp; omega
  have oT : Hid (∀ v ∈ T8, v.oneCell' = true) := fun v hv => o3.out v (by rw [← hT8] at hv; exact List.mem_of_mem_take hv)
  have oD : Hid (∀ v ∈ D8, v.oneCell' = true) := fun v hv => o3.out v (by rw [← hD8] at hv; exact List.mem_of_mem_drop hv)
  have srcT : Hid (∀ j v, T8[j]? = some v → V5.drew.cell? ((⟨G, 0, none⟩ : Addr).add j) = some v) := fun j v hj => by
    have hj8 : j < 8 := by rw [← t1]; exact (List.getElem?_eq_some_iff.1 hj).1
    rw [Addr.add_mid, Nat.zero_add]
    refine src.out j v ?_
    rw [← hT8, List.getElem?_take, if_pos hj8] at hj; exact hj
  have srcD : Hid (∀ j v, D8[j]? = some v → V5.cell? ⟨G, 8 + j, none⟩ = some v) := fun j v hj => by
    refine src.out (8 + j) v ?_
    rw [← hD8, List.getElem?_drop] at hj; exact hj
  rw [hT8, hD8] at HX
  clear src hT8 hD8 o3 l3
  go_wp2
  go_region_held3 (fun _ => True) (trivial)
    (first | (refine step_copy_row rfl (.tmp 25) (.tmp 28) 69 69 rfl 5 Tryz.underlying69 size4_u8 B 56 8 18 ⟨G, 0, none⟩ 8 10 rfl rfl Y2 113 g5.out T8 t1 srcT.out (by omega) oT.out B w (below_drewN b5 1) (Nat.le_refl _) ?_; intro V6 g6 k6 b6))
  have srcE : Hid (∀ j v, D8[j]? = some v → V6.drew.cell? ((⟨G, 8, none⟩ : Addr).add j) = some v) := fun j v hj => by
    rw [Addr.add_mid]
    exact (World.cell?_of_block (w := V5) (a := ⟨G, 8 + j, none⟩) (k6.out G hGB)).trans (srcD.out j v hj)
  have l7 : (splice Y2 56 T8).length = 74 := by rw [length_splice _ _ _ (by omega)]; exact l6
  obtain ⟨Y3, hY3⟩ : ∃ Y3, splice Y2 56 T8 = Y3 := ⟨_, rfl⟩
  rw [hY3] at g6 HX l7
  clear srcD srcT k6 g5 b5 hY3 oT t1 l6
  go_wp2
  go_region_held3 (fun _ => True) (trivial)
    (first | (refine step_copy_row rfl (.tmp 33) (.tmp 36) 69 69 rfl 5 Tryz.underlying69 size4_u8 B 72 2 2 ⟨G, 8, none⟩ 2 2 rfl rfl Y3 113 g6.out D8 t2 srcE.out (by omega) oD.out B w (below_drewN b6 1) (Nat.le_refl _) ?_; intro V7 g7 k7 b7))
  have hc : CodeAt V7 B := fun i hi => by
    have h := g7.out
    rw [HX.out] at h
    rw [cell_of_row _ _ i _ _ (0, 0) h]
    simpa using colsL_at i hi
  clear k7 g7 HX
  go_wp2
  go_ret
  exact ⟨by rw [hB]; rfl, by rw [hB]; exact hc, by rw [hB]; exact b7⟩
end Go.Proofs.YtoimbjbdkkohcaaGreatDoor

/-
  The document's example; the iterator over the columns.
-/
namespace Go.Proofs.YtoimbjbdkkohcaaGreatDoor
open Go.RowKit Go.Shelf
open Bm (wt wtK cntW)
open Hm (col onesOf nOf idx kd pl xs ap syn)
attribute [local go_sem] Oper.semAt_some

theorem run_index_cols (x : Nat) (hx : x < 74) (w : World) : (Instr.index 43 (.agg colsL.toArray) (.int .i64 (x : Int))).run Tryz.prog w = .ok (.int .u8 (col x : Int)) w := by
  have hu := Tryz.underlying43
  have hc := colsL_at x hx
  simp [Instr.index, run_underlying hu, asIntOf, go_sem, hx]
  rw [hc]; rfl
end Go.Proofs.YtoimbjbdkkohcaaGreatDoor

/-
  The law HsiaoDetects.
-/
namespace Go.Proofs.YtoimbjbdkkohcaaGreatDoor
open Go.RowKit Go.Shelf
open Bm (wt wtK cntW)
open Hm (col onesOf nOf idx kd pl xs ap syn)
attribute [local go_sem] Oper.semAt_some

/-- behind some calls of a law that began at w: the code lies in the first block -/
structure St (w V : World) : Prop where
  code : CodeAt V w.heap.size
  tab : TabW V
  below : Below w.heap.size w V
theorem St.next {w V V' : World} (h : St w V) (k : Below V.heap.size V V') : St w V' :=
  ⟨h.code.below k h.code.lt, h.tab.below k h.tab.lt, h.below.trans (k.mono h.below.size)⟩
theorem St.first {w V : World} (hT : TabW w) (hc : CodeAt V w.heap.size) (hb : Below w.heap.size w V) : St w V := ⟨hc, hT.below hb hT.lt, hb⟩
theorem low_bit (a : Int) : ∃ b, bits .and .i64 a 1 = b ∧ (b = 0 ∨ b = 1) := ⟨a % 2, i64_and1 a, by omega⟩

end Go.Proofs.YtoimbjbdkkohcaaGreatDoor

/-
  A range over a function whose loop's variables are laid anew in each round.
-/
namespace Go.Proofs.YtoimbjbdkkohcaaGreatDoor
open Go.RowKit

theorem rangeA {P : Program} {g : Operand} {ps : Array Tmp} {assign body : Code} {Q : Exit → Act → World → Prop} {a : Act} {w : World} {n : Nat}
    {gf : Nat} {lb : Array Value} (hg : a.eval g = .func (.func gf) #[] lb) (eg : ∀ args w, (callFunc gf args).run P w = .ok (.enter gf args) w)
    {enc : Nat → Array Value} {N : Nat} {p T : Nat → Prop} (hseq : SeqC P gf lb enc N p T w) (hps : ∀ x, (enc x).size = ps.size)
    (M : Nat → Prop) (hM : ∀ b, M b → b < w.heap.size ∧ ¬ T b) (hT : ∀ b, T b → b < w.heap.size) (I : Nat → World → Prop) (Ix : Code → Nat → World → Prop) (hI : Abide w.heap.size I) (hIx : ∀ c, Abide w.heap.size (Ix c)) (h0 : I 0 w)
    (hskip : ∀ x W, x < N → ¬ p x → I x W → I (x + 1) W)
    (hround : ∀ (l x : Nat) (W : World), x < N → p x → I x W →
      assign.wpIn (Fence.wide.inRound l) 8 P (Exit.then (fun a' W1 => Keep M W W1 ∧ ∀ W2, Stay w.heap.size W1 W2 → W2.heap.size = W1.heap.size → body.wpIn (Fence.wide.inRound l) 8 P (postC M I Ix x W2) a' W2) (fun _ _ _ => False)) { tmps := (ps.zip (enc x)).foldl (fun t (p, v) => t.setIfInBounds p v) a.tmps, defers := [] } W)
    (hdone : ∀ (D : Nat) (W : World), w.heap.size ≤ D → I N W → W.heap[D]? = some (.deferred (some [])) → Q .normal { a with defers := { target := .collected D, args := #[] } :: a.defers } W)
    (hstop : ∀ (D : Nat) (c : Code) (x : Nat) (W : World), w.heap.size ≤ D → x < N → p x → Ix c x W → W.heap[D]? = some (.deferred (some [])) → c.wpIn Fence.wide n P Q { a with defers := { target := .collected D, args := #[] } :: a.defers } W) :
    (Code.rangeFunc g ps assign body).wpIn Fence.wide n P Q a w := by
  refine wpIn_rangeFunc fun fn hfn => ?_
  -- the record, by its state and what is pending; where the iterator begins
  obtain ⟨R, hR⟩ : ∃ R : LoopState → Option Code → Obj, R = fun st pe => Obj.loop { state := st, pending := pe, fn, tmps := a.tmps, params := ps, assign, body, defers := w.heap.size } := ⟨_, rfl⟩
  have hcR : ∀ st pe, (R st pe).isCells = false := fun st pe => by rw [hR]; rfl
  have r1 : (w.alloc (.deferred (some []))).heap.size = w.heap.size + 1 := by simp
  obtain ⟨V, hV⟩ : ∃ V, V = (w.alloc (.deferred (some []))).alloc (R .ready none) := ⟨_, rfl⟩
  have sV : V.heap.size = w.heap.size + 2 := by rw [hV]; simp
  have st0 : Stay w.heap.size w V := by rw [hV]; exact (Stay.alloc _ w _ (Nat.le_refl _)).trans (Stay.alloc _ _ _ (by rw [r1]; omega))
  have bV : Below w.heap.size w V := below_stay (Below.refl _ _) st0 (Nat.le_refl _)
  have lV : V.heap[w.heap.size + 1]? = some (R .ready none) := by rw [hV, ← r1]; exact World.alloc_heap_new _ _
  have dV : V.heap[w.heap.size]? = some (.deferred (some [])) := by rw [hV]; exact (Below.heap_alloc _ _ _ (by rw [r1]; omega)).trans (World.alloc_heap_new w _)
  refine ⟨w.heap.size + 1, [{ target := .collected w.heap.size, args := #[] }], V, { target := .fn (.func gf) lb, args := #[.func (.yield (w.heap.size + 1)) #[] #[]] }, V, gf,
    #[.func (.yield (w.heap.size + 1)) #[] #[]] ++ lb, V, ?_, ?_, fun _ _ => trivial, ?_, (fun h => by cases h), ?_⟩
  · rw [hV, hR]; exact run_enterLoop_outer _ _ _ _ _
  · simp only [resolve, hg]; simp [go_sem]
  · simp [invoke, go_sem, eg]
  -- the books: the record and the block for deferred calls, beside the caller's word
  have books : ∀ (X : Nat → World → Prop) (o : Obj), o.isCells = false → Abide w.heap.size X → Abide V.heap.size (fun x W => X x W ∧ W.heap[w.heap.size + 1]? = some o ∧ W.heap[w.heap.size]? = some (.deferred (some []))) := by
    rintro X o _ hX x A B ⟨hx, hl, hd⟩ hs
    exact ⟨hX x A B hx (hs.mono (by omega)), (hs.low _ (by omega)).trans hl, (hs.low _ (by omega)).trans hd⟩
  have hcall := hseq (w.heap.size + 1) (fun b => M b ∨ b = w.heap.size + 1)
    (fun x W => I x W ∧ W.heap[w.heap.size + 1]? = some (R .ready none) ∧ W.heap[w.heap.size]? = some (.deferred (some [])))
    (fun x W => ∃ c, Ix c x W ∧ W.heap[w.heap.size + 1]? = some (R .done (some c)) ∧ W.heap[w.heap.size]? = some (.deferred (some [])))
    V bV (by rintro b (hb | rfl); · exact ⟨by have := (hM b hb).1; omega, (hM b hb).2⟩
             · exact ⟨by omega, fun h => by have := hT _ h; omega⟩)
    (books I _ (hcR _ _) hI)
    (by rintro x A B ⟨c, hc⟩ hs; exact ⟨c, books (Ix c) _ (hcR _ _) (hIx c) x A B hc hs⟩)
    (by rintro x W1 hx hp ⟨hi, hl, hd⟩; exact ⟨hskip x W1 hx hp hi, hl, hd⟩)
    (by
      rintro x W hx hp ⟨hi, hl, hd⟩
      have hlt : w.heap.size + 1 < W.heap.size := (Array.getElem?_eq_some_iff.1 hl).1
      have hl' := hl
      rw [hR] at hl'
      refine ⟨fn, _, assign, body, run_yield (P := P) (args := enc x) hl' (hps x), roundIn_of_wpIn hfn ?_⟩
      refine wpIn_mono (hround (w.heap.size + 1) x W hx hp hi) ?_
      rintro e1 a' W1 he1
      have hn : e1 = .normal ∧ Keep M W W1 ∧ ∀ W2, Stay w.heap.size W1 W2 → W2.heap.size = W1.heap.size → body.wpIn (Fence.wide.inRound (w.heap.size + 1)) 8 P (postC M I Ix x W2) a' W2 := by
        cases e1 with
        | normal => exact ⟨rfl, he1.1, he1.2⟩
        | _ => exact he1.elim
      obtain ⟨rfl, k1, hb⟩ := hn
      have l1 : W1.heap[w.heap.size + 1]? = some (R .ready none) := (k1.2 _ hlt (fun h => by have := (hM _ h).1; omega)).trans hl
      have d1 : W1.heap[w.heap.size]? = some (.deferred (some [])) := (k1.2 _ (by omega) (fun h => by have := (hM _ h).1; omega)).trans hd
      have hlt1 : w.heap.size + 1 < W1.heap.size := (Array.getElem?_eq_some_iff.1 l1).1
      have l1' := l1
      rw [hR] at l1'
      -- the record is busy
      obtain ⟨W2, hW2⟩ : ∃ W2, W2 = W1.putObj (w.heap.size + 1) (R .busy none) := ⟨_, rfl⟩
      have sW2 : Stay w.heap.size W1 W2 := by rw [hW2]; exact Stay.putObj _ l1 (hcR _ _) (by omega)
      have zW2 : W2.heap.size = W1.heap.size := by rw [hW2]; simp
      have kW2 : Keep (fun b => M b ∨ b = w.heap.size + 1) W W2 := by rw [hW2]; exact (k1.mono fun _ h => .inl h).putObj (.inr rfl) _
      have lW2 : W2.heap[w.heap.size + 1]? = some (R .busy none) := by rw [hW2]; exact World.putObj_heap_same hlt1
      have dW2 : W2.heap[w.heap.size]? = some (.deferred (some [])) := by rw [hW2]; exact (World.putObj_heap_other (by omega)).trans d1
      have e2 : W1.putObj (w.heap.size + 1) (.loop { state := .busy, pending := none, fn, tmps := a.tmps, params := ps, assign, body, defers := w.heap.size }) = W2 := by rw [hW2, hR]
      -- a round's end
      have fin : ∀ (j : Option Code) (W3 : World), Keep M W2 W3 → ∃ W4, (Instr.endRound (w.heap.size + 1) j).run P W3 = .ok (.bool j.isNone) W4 ∧ Stay w.heap.size W3 W4 ∧ Keep (fun b => M b ∨ b = w.heap.size + 1) W W4 ∧
          W4.heap[w.heap.size + 1]? = some (R (if j.isNone then .ready else .done) j) ∧ W4.heap[w.heap.size]? = some (.deferred (some [])) := by
        intro j W3 k3
        have h2 : w.heap.size + 1 < W2.heap.size := (Array.getElem?_eq_some_iff.1 lW2).1
        have l3 : W3.heap[w.heap.size + 1]? = some (R .busy none) := (k3.2 _ h2 (fun h => by have := (hM _ h).1; omega)).trans lW2
        have d3 : W3.heap[w.heap.size]? = some (.deferred (some [])) := (k3.2 _ (by omega) (fun h => by have := (hM _ h).1; omega)).trans dW2
        have l3' := l3
        rw [hR] at l3'
        refine ⟨_, run_endRound (P := P) j l3', Stay.putObj _ l3 (hcR _ _) (by omega), (kW2.trans (k3.mono fun _ h => .inl h)).putObj (.inr rfl) _, ?_, (World.putObj_heap_other (by omega)).trans d3⟩
        rw [World.putObj_heap_same (Array.getElem?_eq_some_iff.1 l3).1, hR]
      refine ⟨W2, ?_, wpIn_mono (hb W2 sW2 zW2) ?_⟩
      · rw [← e2]; exact run_beginRound l1' rfl
      rintro e a3 W3 hpost
      cases e with
      | normal =>
        obtain ⟨W4, hr, s4, k4, l4, d4⟩ := fin none W3 hpost.1
        exact ⟨_, _, hr, .inl ⟨rfl, ⟨hI _ _ _ hpost.2 s4, l4, d4⟩, k4⟩⟩
      | ret =>
        obtain ⟨W4, hr, s4, k4, l4, d4⟩ := fin (some .ret) W3 hpost.1
        exact ⟨_, _, hr, .inr ⟨rfl, ⟨_, hIx _ _ _ _ hpost.2 s4, l4, d4⟩, k4⟩⟩
      | exit id =>
        obtain ⟨W4, hr, s4, k4, l4, d4⟩ := fin (some (.exit id)) W3 hpost.1
        exact ⟨_, _, hr, .inr ⟨rfl, ⟨_, hIx _ _ _ _ hpost.2 s4, l4, d4⟩, k4⟩⟩
      | goto t =>
        obtain ⟨W4, hr, s4, k4, l4, d4⟩ := fin (some (.goto t)) W3 hpost.1
        exact ⟨_, _, hr, .inr ⟨rfl, ⟨_, hIx _ _ _ _ hpost.2 s4, l4, d4⟩, k4⟩⟩
      | panic ch => exact hpost.elim
      | outgrown => exact hpost.elim)
    ⟨hI _ _ _ h0 st0, lV, dV⟩
  refine (callsIn_wide.2 (callsIn_wide.1 hcall)).mono ?_
  -- behind the iterator
  rintro e W ⟨⟨v, rfl⟩, (⟨hi, hl, hd⟩ | ⟨x, hx, hp, c, hi, hl, hd⟩)⟩
  · have hl' := hl
    rw [hR] at hl'
    exact ⟨none, _, run_endLoop (P := P) hl' (by simp), hdone _ _ (Nat.le_refl _) (hI _ _ _ hi (Stay.putObj _ hl (hcR _ _) (by omega))) ((World.putObj_heap_other (by omega)).trans hd)⟩
  · have hl' := hl
    rw [hR] at hl'
    exact ⟨some c, _, run_endLoop (P := P) hl' (by simp), hstop _ c x _ (Nat.le_refl _) hx hp (hIx _ _ _ _ hi (Stay.putObj _ hl (hcR _ _) (by omega))) ((World.putObj_heap_other (by omega)).trans hd)⟩

end Go.Proofs.YtoimbjbdkkohcaaGreatDoor

/-
  A codec and its two codes; append beyond the room; a function leaves that ranged over another one.
-/
namespace Go.Proofs.YtoimbjbdkkohcaaGreatDoor
open Go.RowKit Go.Shelf
open Bm (wt wtK)
open Po (El toE)
attribute [local go_sem] Oper.semAt_some

/-- a codec lies in c: hsiao's code in h, rs's in r, over the field in f -/
structure CcAt (W : World) (c h r f : Nat) : Prop where
  c0 : W.cell? ⟨c, 0, none⟩ = some (.pointer (some ⟨h, 0, none⟩))
  c1 : W.cell? ⟨c, 1, none⟩ = some (.pointer (some ⟨r, 0, none⟩))
  hs : CodeAt W h
  rs : CdAt W r f
section
variable {W W' : World} {c h r f : Nat}
theorem CcAt.of (H : CcAt W c h r f) (k1 : W'.heap[c]? = W.heap[c]?) (k2 : W'.heap[h]? = W.heap[h]?) (k3 : W'.heap[r]? = W.heap[r]?) (k4 : W'.heap[f]? = W.heap[f]?) : CcAt W' c h r f :=
  ⟨(World.cell?_of_block (w := W) (a := ⟨c, 0, none⟩) k1).trans H.c0, (World.cell?_of_block (w := W) (a := ⟨c, 1, none⟩) k1).trans H.c1, H.hs.of k2, H.rs.of k3 k4⟩
theorem CcAt.lt (H : CcAt W c h r f) : c < W.heap.size ∧ h < W.heap.size ∧ r < W.heap.size ∧ f < W.heap.size := ⟨cell_lt H.c0, H.hs.lt, H.rs.lt, H.rs.fld.lt⟩
theorem CcAt.next (H : CcAt W c h r f) (k : Below W.heap.size W W') : CcAt W' c h r f :=
  H.of (k.block _ H.lt.1) (k.block _ H.lt.2.1) (k.block _ H.lt.2.2.1) (k.block _ H.lt.2.2.2)
theorem CcAt.stay {B : Nat} (H : CcAt W c h r f) (k : Stay B W W') : CcAt W' c h r f := ⟨k.cell H.c0, k.cell H.c1, H.hs.stay k, H.rs.stay k⟩
end
theorem TabW.next {W W' : World} (h : TabW W) (k : Below W.heap.size W W') : TabW W' := h.below k h.lt
theorem TabW.stay {B : Nat} {W W' : World} (h : TabW W) (k : Stay B W W') : TabW W' := fun j hj => k.cell (h j hj)

set_option maxRecDepth 100000 in
set_option maxHeartbeats 1000000 in
theorem new10_any (w : World) :
    Calls Tryz.prog 12 #[] w fun e w' => ∃ c h r f, e = .returned (.pointer (some ⟨c, 0, none⟩)) ∧ CcAt w' c h r f ∧ Below w.heap.size w w' ∧ w.heap.size ≤ c ∧ w.heap.size ≤ h ∧ w.heap.size ≤ r ∧ w.heap.size ≤ f := by
  go_enter Tryz.func12, Tryz.ntmps12
  go_wp2_with fail
  refine (new4_any _).mono ?_
  rintro e V1 ⟨rfl, h1, b1⟩
  obtain ⟨h, hh⟩ : ∃ h, w.heap.size = h := ⟨_, rfl⟩
  have H1 : Hid (CodeAt V1 h ∧ Below w.heap.size w V1) := by rw [← hh]; exact ⟨h1, b1⟩
  rw [hh]
  have lh : w.heap.size ≤ h := by omega
  have ls : w.heap.size ≤ V1.heap.size := b1.size
  clear h1 b1 hh
  go_wp2_with fail
  refine (new_any _).mono ?_
  rintro e V2 ⟨rfl, hV2⟩
  obtain ⟨f, hf⟩ : ∃ f, V1.heap.size = f := ⟨_, rfl⟩
  have b2 : Below V1.heap.size V1 V2 := by rw [hV2]; exact (Below.refl _ V1).alloc (Nat.le_refl _) _
  have H2 : Hid (FldAt V2 f ∧ CodeAt V2 h ∧ Below w.heap.size w V2) := by
    have := fldAt_new V1 124
    rw [← hV2, hf] at this
    exact ⟨this, H1.out.1.below b2 H1.out.1.lt, H1.out.2.trans (b2.mono ls)⟩
  have ls2 : w.heap.size ≤ V2.heap.size := H2.out.2.2.size
  rw [hf]
  have lf : w.heap.size ≤ f := by omega
  clear H1 hV2 hf b2 ls
  go_wp2_with fail
  refine (rsnew_any f _ (by exact H2.out.1)).mono ?_
  rintro e V3 ⟨rfl, hC, b3⟩
  obtain ⟨r, hr⟩ : ∃ r, V2.heap.size = r := ⟨_, rfl⟩
  have H3 : Hid (CdAt V3 r f ∧ CodeAt V3 h ∧ Below w.heap.size w V3) := by
    rw [← hr]
    exact ⟨hC, H2.out.2.1.below b3 H2.out.2.1.lt, H2.out.2.2.trans (b3.mono ls2)⟩
  have ls3 : w.heap.size ≤ V3.heap.size := H3.out.2.2.size
  rw [hr]
  have lr : w.heap.size ≤ r := by omega
  clear H2 hC b3 hr ls2
  go_wp2
  have H4 : CcAt (V3.alloc (.cells #[.pointer (some ⟨h, 0, none⟩), .pointer (some ⟨r, 0, none⟩)] 68)) V3.heap.size h r f := by
    have st := Stay.alloc V3.heap.size V3 (.cells #[.pointer (some ⟨h, 0, none⟩), .pointer (some ⟨r, 0, none⟩)] 68) (Nat.le_refl _)
    exact ⟨by rw [World.cell?_alloc_new]; rfl, by rw [World.cell?_alloc_new]; rfl, H3.out.2.1.stay st, H3.out.1.stay st⟩
  have HB := H3.out.2.2.alloc ls3 (.cells #[.pointer (some ⟨h, 0, none⟩), .pointer (some ⟨r, 0, none⟩)] 68)
  go_ret
  exact ⟨_, h, r, f, rfl, H4, HB, ls3, lh, lr, lf⟩

/-- append beyond the room: all lies in a new block -/
theorem wp_appG {o : Oper} {a : Act} {w : World} {K : Act → World → Prop} {Q : Exit → Act → World → Prop} (d s : Operand)
    (ho : o.op = .call { callee := .builtin .append, args := #[d, s], argTypes := #[69, 69] })
    (g go len cap sb so m c : Nat) (F G : Nat → Int) (hd : a.eval d = .slice (some ⟨g, go, none⟩) len cap) (hs : a.eval s = .slice (some ⟨sb, so, none⟩) m c)
    (hF : ∀ j : Nat, j < len → w.cell? ⟨g, go + j, none⟩ = some (.int .u8 (F j))) (hG : ∀ j : Nat, j < m → w.cell? ⟨sb, so + j, none⟩ = some (.int .u8 (G j))) (hfull : cap < len + m) (hsm : len + m ≤ 1000)
    (h : ∀ (cp : Nat) (w' : World), Hid (∀ j : Nat, j < len + m → w'.cell? ⟨w.heap.size, j, none⟩ = some (.int .u8 (if j < len then F j else G (j - len)))) → Below w.heap.size w w' → K (a.put o.dst (.slice (some ⟨w.heap.size, 0, none⟩) (len + m) cp)) w') : Oper.wp Tryz.prog o a w K Q := by
  obtain ⟨i, hi, hz0, hz1, hz2⟩ := info_parts byte_info
  have src : ∀ (b o n : Nat) (X : Nat → Int), (∀ j : Nat, j < n → w.cell? ⟨b, o + j, none⟩ = some (.int .u8 (X j))) → ∀ j u, (ints .u8 n X)[j]? = some u → w.cell? ((⟨b, o, none⟩ : Addr).add j) = some u := fun b o n X hX j u hu => by
    have hj : j < n := by have := (List.getElem?_eq_some_iff.1 hu).1; rw [ints_len] at this; exact this
    rw [ints_at .u8 n X j hj] at hu
    cases hu
    rw [Addr.add_mid]; exact hX j hj
  have hr := run_append_grow (P := Tryz.prog) w 69 o.type 5 i (.int .u8 0) Tryz.underlying69 hi hz0 ⟨g, go, none⟩ len cap (ints .u8 len F) (by rw [ints_len, hz1, Nat.mul_one]) (src g go len F hF)
    ⟨sb, so, none⟩ m c (ints .u8 m G) (by rw [ints_len, hz1, Nat.mul_one]) (src sb so m G hG) hfull (by omega) (growslice_fits hfull (by rw [hz2]; omega))
  unfold Oper.wp
  simp [execOp, ho, resolve, invoke, builtin, hd, hs, hr, Result.andThen]
  refine h _ _ (fun j hj => ?_) (below_stay ((Below.refl _ w)) ((Stay.drewN _ w 1).trans (Stay.alloc _ _ _ (Nat.le_refl _))) (Nat.le_refl _))
  show (w.drew.alloc _).cell? ⟨w.drew.heap.size, j, none⟩ = _
  rw [World.cell?_alloc_new]
  rw [Array.getElem?_append_left (by simp [ints_len]; omega), List.getElem?_toArray]
  by_cases h1 : j < len
  · rw [if_pos h1, List.getElem?_append_left (by rw [ints_len]; exact h1)]
    exact ints_at .u8 len F j h1
  · rw [if_neg h1, List.getElem?_append_right (by rw [ints_len]; omega), ints_len]
    exact ints_at .u8 m G (j - len) (by omega)
/-- a slice of one byte is built -/
theorem wp_build1 {o : Oper} {a : Act} {w : World} {K : Act → World → Prop} {Q : Exit → Act → World → Prop} (v : Int) (n : Nat) (ho : o.op = .buildSlice 69 1 #[(0, .tmp n)]) (hx : a.tmps[n]?.getD undef = .int .u8 v)
    (h : K (a.put o.dst (.slice (some ⟨w.heap.size, 0, none⟩) 1 1)) (w.alloc (.cells #[.int .u8 v] 5))) : Oper.wp Tryz.prog o a w K Q := by
  simp [Oper.wp, execOp, ho, hx, go_sem, Oper.upon]
  exact h
/-- a function leaves: each block for deferred calls is shut; S holds, and what holds so tells the result -/
theorem ends_any {n : Nat} {fn : Func} {tmps : Array Value} {v : Value} {B : Nat} {S : World → Prop} {R : Ending → World → Prop} (hSt : ∀ W W', S W → Stay B W W' → S W') (hres : ∀ W, S W → (results fn tmps).run Tryz.prog W = .ok v W) (hR : ∀ W, S W → R (.returned v) W) :
    ∀ (ds : List Nat) (W : World), ds.Nodup → (∀ D ∈ ds, B ≤ D ∧ W.heap[D]? = some (.deferred (some []))) → S W →
      LeavesInM Fence.wide n Tryz.prog fn tmps R (ds.map fun D => { target := .collected D, args := #[] }) .returning W
  | [], W, _, _, h => ⟨_, hres W h, hR W h⟩
  | D :: ds, W, hnd, hd, h => by
    have h0 := hd D (by simp)
    have hnd' := List.nodup_cons.1 hnd
    refine ⟨by simp, .inl ⟨D, _, rfl, run_takeDeferred h0.2, ?_⟩⟩
    have s1 : Stay D W (W.putObj D (.deferred none)) := Stay.putObj _ h0.2 rfl (Nat.le_refl _)
    refine ends_any hSt hres hR ds _ hnd'.2 (fun E hE => ?_) (hSt _ _ h (s1.mono h0.1))
    have hE' := hd E (by simp [hE])
    exact ⟨hE'.1, (World.putObj_heap_other (fun e => hnd'.1 (by cases e; exact hE))).trans hE'.2⟩

/-- while a line is encoded: the codec's variable in B, the index's in B + 2, the poison's in B + 3, the result's in B + 4, what is laid already in P -/
structure EbI (B P c h r f : Nat) (ix : Int) (p : Bool) (X : Nat → Int) (w W : World) : Prop where
  pc : Box W B (.pointer (some ⟨c, 0, none⟩))
  pi : Box W (B + 1 + 1) (.int .i64 ix)
  pp : Box W (B + 1 + 1 + 1) (.bool p)
  o : Bk .u8 W (B + 1 + 1 + 1 + 1) 72 (fun _ => 0)
  x : Bk .u8 W P 72 X
  cc : CcAt W c h r f
  tab : TabW W
  lt : c < B ∧ h < B ∧ r < B ∧ f < B ∧ 0 < B ∧ B + 4 < P
  below : Below B w W
section
variable {B P c h r f : Nat} {ix : Int} {p : Bool} {X : Nat → Int} {w W W' : World}
theorem EbI.next (H : EbI B P c h r f ix p X w W) (k : Below W.heap.size W W') : EbI B P c h r f ix p X w W' :=
  ⟨H.pc.below k H.pc.lt, H.pi.below k H.pi.lt, H.pp.below k H.pp.lt, H.o.next k, H.x.next k, H.cc.next k, H.tab.next k, H.lt, H.below.trans (k.mono (Nat.le_of_lt H.pc.lt))⟩
theorem EbI.stay {C : Nat} (H : EbI B P c h r f ix p X w W) (k : Stay C W W') (hC : B ≤ C) : EbI B P c h r f ix p X w W' :=
  ⟨H.pc.stay k, H.pi.stay k, H.pp.stay k, H.o.stay k, H.x.stay k, H.cc.stay k, H.tab.stay k, H.lt, below_stay H.below k hC⟩
theorem EbI.put (H : EbI B P c h r f ix p X w W) (Y : Nat → Int) : EbI B P c h r f ix p Y w (W.setCells P 0 (ints .u8 72 Y)) := by
  have hl := H.lt
  have hk : ∀ b, b < P → (W.setCells P 0 (ints .u8 72 Y)).heap[b]? = W.heap[b]? := fun b hb => heap_puts P _ 0 W b (by omega)
  exact ⟨H.pc.of (hk _ (by omega)), H.pi.of (hk _ (by omega)), H.pp.of (hk _ (by omega)), H.o.of (hk _ (by omega)), H.x.put Y, H.cc.of (hk _ (by omega)) (hk _ (by omega)) (hk _ (by omega)) (hk _ (by omega)), H.tab.of (hk _ (by omega)), H.lt, belows_put (by omega) _ 0 H.below⟩
theorem ebI_new (t0 t1 t2 t3 t4 t5 : TypeId) {F : Nat → Int} (hc : CcAt w c h r f) (hT : TabW w) (hB : w.heap.size = B)
    (hV : (((((w.alloc (.cells #[.pointer (some ⟨c, 0, none⟩)] t0)).alloc (.cells (ints .u8 64 F).toArray t1)).alloc (.cells #[.int .i64 ix] t2)).alloc (.cells #[.bool p] t3)).alloc (.cells (ints .u8 72 fun _ => 0).toArray t4)).alloc (.cells (ints .u8 72 fun _ => 0).toArray t5) = W) :
    EbI B (B + 1 + 1 + 1 + 1 + 1) c h r f ix p (fun _ => 0) w W ∧ Bk .u8 W (B + 1) 64 F := by
  have h0 := Box.new w t0 (.pointer (some ⟨c, 0, none⟩))
  obtain ⟨W1, hW1⟩ : ∃ W1, w.alloc (.cells #[.pointer (some ⟨c, 0, none⟩)] t0) = W1 := ⟨_, rfl⟩
  have s1 : W1.heap.size = B + 1 := by rw [← hW1, World.size_alloc, hB]
  have h1 := Bk.new .u8 W1 64 F t1
  obtain ⟨W2, hW2⟩ : ∃ W2, W1.alloc (.cells (ints .u8 64 F).toArray t1) = W2 := ⟨_, rfl⟩
  have s2 : W2.heap.size = B + 1 + 1 := by rw [← hW2, World.size_alloc, s1]
  have h2 := Box.new W2 t2 (.int .i64 ix)
  obtain ⟨W3, hW3⟩ : ∃ W3, W2.alloc (.cells #[.int .i64 ix] t2) = W3 := ⟨_, rfl⟩
  have s3 : W3.heap.size = B + 1 + 1 + 1 := by rw [← hW3, World.size_alloc, s2]
  have h3 := Box.new W3 t3 (.bool p)
  obtain ⟨W4, hW4⟩ : ∃ W4, W3.alloc (.cells #[.bool p] t3) = W4 := ⟨_, rfl⟩
  have s4 : W4.heap.size = B + 1 + 1 + 1 + 1 := by rw [← hW4, World.size_alloc, s3]
  have h4 := Bk.new .u8 W4 72 (fun _ => 0) t4
  obtain ⟨W5, hW5⟩ : ∃ W5, W4.alloc (.cells (ints .u8 72 fun _ => 0).toArray t4) = W5 := ⟨_, rfl⟩
  have s5 : W5.heap.size = B + 1 + 1 + 1 + 1 + 1 := by rw [← hW5, World.size_alloc, s4]
  have h5 := Bk.new .u8 W5 72 (fun _ => 0) t5
  rw [hW1, hW2, hW3, hW4, hW5] at hV
  rw [hW1, hB] at h0
  rw [hW2, s1] at h1
  rw [hW3, s2] at h2
  rw [hW4, s3] at h3
  rw [hW5, s4] at h4
  rw [hV, s5] at h5
  have st : ∀ {X Y : World} {o : Obj}, X.alloc o = Y → Stay X.heap.size X Y := fun e => by rw [← e]; exact Stay.alloc _ _ _ (Nat.le_refl _)
  have k5 := st hV
  have k4 := (st hW5).trans (k5.mono (by omega))
  have k3 := (st hW4).trans (k4.mono (by omega))
  have k2 := (st hW3).trans (k3.mono (by omega))
  have k1 := (st hW2).trans (k2.mono (by omega))
  have k0 := (st hW1).trans (k1.mono (by omega))
  have hl := hc.lt
  have ht := hT.lt
  refine ⟨⟨h0.stay k1, h2.stay k3, h3.stay k4, h4.stay k5, h5, hc.stay k0, hT.stay k0, by omega, ?_⟩, h1.stay k2⟩
  have := below_stay (Below.refl w.heap.size w) k0 (Nat.le_refl _)
  rw [hB] at this
  exact this
theorem EbI.congr (H : EbI B P c h r f ix p X w W) {Y : Nat → Int} (e : ∀ i, i < 72 → X i = Y i) : EbI B P c h r f ix p Y w W := { H with x := H.x.congr e }
end
end Go.Proofs.YtoimbjbdkkohcaaGreatDoor
