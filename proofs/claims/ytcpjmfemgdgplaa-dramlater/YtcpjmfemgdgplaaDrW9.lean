/-
  A fault is put behind others.
-/
import Derived.Test.YtcpjmfemgdgplaaDrW8
namespace Go.Proofs.Ytcpjmfemgdgplaa
open Go.RowKit Go.Shelf
open Ge (pw rt hd ix)
attribute [local go_sem] Oper.semAt_some

theorem wp_store_slice {o : Oper} {a : Act} {w : World} {K : Act → World → Prop} {Q : Exit → Act → World → Prop} (x y : Operand) (ho : o.op = .store 45 x y) (b i : Nat) (hx : a.eval x = .pointer (some ⟨b, i, none⟩)) (z : Option Addr) (l c : Nat) (hy : a.eval y = .slice z l c)
    (old : Value) (hc : w.cell? ⟨b, i, none⟩ = some old) (hf : w.frozen? ⟨b, i, none⟩ = false) (h : K (a.put o.dst undef) (w.setCell ⟨b, i, none⟩ (.slice z l c))) : Oper.wp Try.prog o a w K Q := by
  unfold Oper.wp execOp
  simp only [ho, hx, hy]
  simp [go_sem, Oper.upon, hc, hf]
  exact h
theorem wp_loadc {o : Oper} {a : Act} {w : World} {K : Act → World → Prop} {Q : Exit → Act → World → Prop} (x : Operand) (ho : o.op = .load 45 x) (b i : Nat) (hx : a.eval x = .pointer (some ⟨b, i, none⟩)) (v : Value) (hc : w.cell? ⟨b, i, none⟩ = some v) (h : K (a.put o.dst v) w) : Oper.wp Try.prog o a w K Q := by
  unfold Oper.wp execOp
  simp only [ho, hx]
  simp [go_sem, Oper.upon, hc]
  exact h
theorem own_form {W : World} {lo l : Nat} {t : TypeId} {v : Value} {xs : List Value} (h : W.ownsRow lo t 8 v l xs) : ∃ a c, v = .slice a l c := by
  rcases h.2 with ⟨rfl, rfl⟩ | ⟨g, cap, cur, rfl, _⟩
  · exact ⟨none, 0, rfl⟩
  · exact ⟨_, cap, rfl⟩
set_option maxRecDepth 100000 in
set_option maxHeartbeats 4000000 in
theorem dPut_full (B f l : Nat) (a : Option Addr) (cap : Nat) (k p q u v c x y : Int) (hl : 256 ≤ l) (hl2 : l ≤ 256) (W : World) (hc : W.cell? ⟨B, f, none⟩ = some (.slice a l cap)) :
    Calls Try.prog 51 #[.pointer (some ⟨B, f, none⟩), .agg #[.int .i64 k, .int .i64 p, .int .i64 q, .int .i64 u, .int .i64 v, .int .i64 c, .int .i64 x, .int .i64 y]] W fun e w' => e = .returned (.int .i64 14) ∧ Below W.heap.size W w' := by
  obtain rfl : l = 256 := by omega
  go_enter Try.func51, Try.ntmps51
  go_upto_region 1 with (fail)
  obtain ⟨V, hV⟩ : ∃ V, W.alloc (.cells #[.int .i64 k, .int .i64 p, .int .i64 q, .int .i64 u, .int .i64 v, .int .i64 c, .int .i64 x, .int .i64 y] 38) = V := ⟨_, rfl⟩
  have HB : Hid (Below W.heap.size W V) := by rw [← hV]; exact (Below.refl _ W).alloc (Nat.le_refl _) _
  have c0 : V.cell? ⟨B, f, none⟩ = some (.slice a 256 cap) := by rw [← hV]; exact Lib.cell?_alloc_some _ hc
  rw [hV]
  clear hV hc
  go_wp2
  go_ret
  exact ⟨rfl, HB.out⟩
/-- at work in put -/
structure Pw (B C f l : Nat) (a : Option Addr) (cap : Nat) (D : List Value) (k p q u v c x y : Int) (W : World) : Prop where
  b : ∃ D' v', Cb W B D' ∧ D'[f]? = some v'
  f : Ft W C k p q u v c x y
set_option maxRecDepth 100000 in
set_option maxHeartbeats 4000000 in
theorem dPut_any (lo B f l : Nat) (v0 : Value) (Z : Nat → Nat → Int) (D : List Value) (k p q u v c x y : Int) (hl : l < 256) (W : World) (hc : Cb W B D) (hv : D[f]? = some v0) (ho : W.ownsRow lo 38 8 v0 l (fcells12 l Z)) (hne : v0.ownBlock ≠ some B) (hlo : lo ≤ B) :
    Calls Try.prog 51 #[.pointer (some ⟨B, f, none⟩), .agg #[.int .i64 k, .int .i64 p, .int .i64 q, .int .i64 u, .int .i64 v, .int .i64 c, .int .i64 x, .int .i64 y]] W fun e w' => e = .returned (.int .i64 0) ∧ ∃ v1, Cb w' B (D.set f v1) ∧ w'.ownsRow lo 38 8 v1 (l + 1) (fcells12 (l + 1) (snZ Z l (ffn k p q u v c x y))) ∧ (v1.ownBlock = v0.ownBlock ∨ ∃ g, v1.ownBlock = some g ∧ W.heap.size ≤ g) ∧ Below lo W w' ∧ ∀ j, j < W.heap.size → j ≠ B → v0.ownBlock ≠ some j → w'.heap[j]? = W.heap[j]? := by
  obtain ⟨a, cap, rfl⟩ := own_form ho
  have HD : Hid (Cb W B D ∧ D[f]? = some (.slice a l cap) ∧ W.ownsRow lo 38 8 (.slice a l cap) l (fcells12 l Z) ∧ (Value.slice a l cap).ownBlock ≠ some B ∧ lo ≤ B) := ⟨hc, hv, ho, hne, hlo⟩
  clear hc hv ho hne hlo
  have hbF := builtFl k p q u v c x y
  go_enter Try.func51, Try.ntmps51
  go_upto_region 1 with (fail)
  obtain ⟨C, hC⟩ : ∃ C, W.heap.size = C := ⟨_, rfl⟩
  obtain ⟨V, hV⟩ : ∃ V, W.alloc (.cells #[.int .i64 k, .int .i64 p, .int .i64 q, .int .i64 u, .int .i64 v, .int .i64 c, .int .i64 x, .int .i64 y] 38) = V := ⟨_, rfl⟩
  have HB : Hid (Below W.heap.size W V) := by rw [← hV]; exact (Below.refl _ W).alloc (Nat.le_refl _) _
  have HV : Hid (Cb V B D ∧ V.ownsRow lo 38 8 (.slice a l cap) l (fcells12 l Z) ∧ Ft V C k p q u v c x y) := by
    rw [← hV]
    refine ⟨HD.out.1.alloc _, HD.out.2.2.1.alloc _, ?_⟩
    rw [← hC]
    exact Ft.new W k p q u v c x y _
  have HVS : Hid (V.heap.size = C + 1) := by rw [← hV, ← hC]; simp [Hid]
  rw [hV, hC]
  clear hV
  have c0 := HV.out.1.cell HD.out.2.1
  have hlt : ¬ ((l : Int) ≥ 256) := by omega
  go_upto_region 3 with (fail)
  clear c0
  have HS : Hid (Pw B C f l a cap D k p q u v c x y V.drew ∧ V.drew.cell? ⟨B, f, none⟩ = some (.slice a l cap)) := ⟨⟨⟨D, _, HV.out.1, HD.out.2.1⟩, HV.out.2.2⟩, HV.out.1.cell HD.out.2.1⟩
  have hlo2 : lo ≤ V.drew.heap.size := by have := HD.out.1.lt; have := HD.out.2.2.2.2; have := HB.out.size; show lo ≤ V.heap.size; omega
  obtain ⟨v1, W2, hap, how, hgr, hloc⟩ := append_one lo l (.slice a l cap) Z k p q u v c x y V.drew 45 hl hlo2 HV.out.2.1
  obtain ⟨a1, cap1, rfl⟩ := own_form how
  have hBC : B < C := by rw [← hC]; exact HD.out.1.lt
  have hsz : V.drew.heap.size = C + 1 := by have := HV.out.2.2.lt; show V.heap.size = C + 1; exact HVS.out
  have hk : ∀ j, j < V.drew.heap.size → (Value.slice a l cap).ownBlock ≠ some j → W2.heap[j]? = V.heap[j]? := fun j h1 h2 => hgr.block j h1 (fun e => h2 e.symm)
  have hw2 : Cb W2 B D := HV.out.1.of (hk B (by omega) HD.out.2.2.2.1)
  have HC2 : Hid (∃ v', D[f]? = some v') := ⟨_, HD.out.2.1⟩
  obtain ⟨W3, hW3⟩ : ∃ W3, W2.setCell ⟨B, f, none⟩ (.slice a1 (l + 1) cap1) = W3 := ⟨_, rfl⟩
  have HF : Hid (Pw B C f l a cap D k p q u v c x y W3 ∧ Cb W3 B (D.set f (.slice a1 (l + 1) cap1)) ∧ W3.ownsRow lo 38 8 (.slice a1 (l + 1) cap1) (l + 1) (fcells12 (l + 1) (snZ Z l (ffn k p q u v c x y))) ∧ ((Value.slice a1 (l + 1) cap1).ownBlock = (Value.slice a l cap).ownBlock ∨ ∃ g, (Value.slice a1 (l + 1) cap1).ownBlock = some g ∧ W.heap.size ≤ g) ∧ Below lo W W3 ∧ ∀ j, j < W.heap.size → j ≠ B → (Value.slice a l cap).ownBlock ≠ some j → W3.heap[j]? = W.heap[j]?) := by
    have ho3 : ∀ j, j ≠ B → W3.heap[j]? = W2.heap[j]? := fun j hj => by rw [← hW3]; exact Below.heap_setCell W2 ⟨B, f, none⟩ _ j hj
    have hown : ∀ j, (Value.slice a l cap).ownBlock = some j → lo ≤ j ∧ j < W.heap.size := fun j e => HD.out.2.2.1.lt j e
    have h3 : Cb W3 B (D.set f (.slice a1 (l + 1) cap1)) := by rw [← hW3]; exact hw2.set f _
    have hCo : (Value.slice a l cap).ownBlock ≠ some C := fun e => by have := (hown C e).2; omega
    refine ⟨⟨⟨_, .slice a1 (l + 1) cap1, h3, by rw [List.getElem?_set_self (List.getElem?_eq_some_iff.1 HD.out.2.1).1]⟩, Bk.of HV.out.2.2 ((ho3 C (by omega)).trans (hk C (by omega) hCo))⟩, h3, own_kept how (fun g hg => ho3 g (fun e => ?_)), ?_, ?_, fun j h1 h2 h3 => ?_⟩
    · subst e
      rcases hloc with h | ⟨g2, h, h'⟩
      · exact HD.out.2.2.2.1 (by rw [← h, hg])
      · rw [hg] at h
        cases h
        omega
    · rcases hloc with h | ⟨g2, h, h'⟩
      · exact .inl h
      · exact .inr ⟨g2, h, by omega⟩
    · rw [← hW3]
      exact below_set12 HD.out.2.2.2.2 (below_grown7 ((HB.out.mono (by have := HD.out.1.lt; have := HD.out.2.2.2.2; omega)).trans (below_stay (Below.refl lo V) (Stay.drewN _ V 1) (by have := HD.out.1.lt; have := HD.out.2.2.2.2; have := HB.out.size; omega))) hgr (fun g e => (hown g e).1) hlo2)
    · exact (ho3 j h2).trans ((hk j (by omega) h3).trans (HB.out.block j h1))
  have HB2 : Hid (Cb W2 B D) := hw2
  have hF2 : Ft W2 C k p q u v c x y := Bk.of HV.out.2.2 (hk C (by omega) (fun e => by have := (HD.out.2.2.1.lt C e).2; omega))
  clear how hgr hloc hk hw2
  refine region_ends (by kernel_rfl) (fun W' => Ft W' C k p q u v c x y ∧ ∃ D' v', Cb W' B D' ∧ D'[f]? = some v') (fun a2 W' => a2 = ({ tmps := #[.pointer (some ⟨B, f, none⟩), .agg #[.int .i64 k, .int .i64 p, .int .i64 q, .int .i64 u, .int .i64 v, .int .i64 c, .int .i64 x, .int .i64 y], undef, .pointer (some ⟨C, 0, none⟩), .int .i64 0, .pointer (some ⟨B, f, none⟩), .pointer (some ⟨B, f, none⟩), .slice a l cap, .int .i64 (l : Int), .bool false, .pointer (some ⟨B, f, none⟩), .pointer (some ⟨B, f, none⟩), .pointer (some ⟨B, f, none⟩), .slice a l cap, .agg #[.int .i64 k, .int .i64 p, .int .i64 q, .int .i64 u, .int .i64 v, .int .i64 c, .int .i64 x, .int .i64 y], .slice (some ⟨V.drew.heap.size, 0, none⟩) 1 1, .slice a1 (l + 1) cap1, .pointer (some ⟨B, f, none⟩)], defers := [] } : Act) ∧ W' = W3) ⟨HS.out.1.f, HS.out.1.b⟩ (fun hH => ?reg) (fun a2 V3 hr => ?aft)
  case reg =>
    refine take_pure 0 (v := .pointer (some ⟨B, f, none⟩)) rfl (by kernel_rfl) rfl (fun w' hw => by simp [execOp, go_sem]) hH ?_
    show wpAnyH _ _ _ _ _ _ _ ({ tmps := #[.pointer (some ⟨B, f, none⟩), .agg #[.int .i64 k, .int .i64 p, .int .i64 q, .int .i64 u, .int .i64 v, .int .i64 c, .int .i64 x, .int .i64 y], undef, .pointer (some ⟨C, 0, none⟩), .int .i64 0, .pointer (some ⟨B, f, none⟩), .pointer (some ⟨B, f, none⟩), .slice a l cap, .int .i64 (l : Int), .bool false, .pointer (some ⟨B, f, none⟩), undef, undef, undef, undef, undef, undef, undef], defers := [] } : Act) _
    refine take_pure 1 (v := .pointer (some ⟨B, f, none⟩)) rfl (by kernel_rfl) rfl (fun w' hw => by simp [execOp, go_sem]) hH ?_
    show wpAnyH _ _ _ _ _ _ _ ({ tmps := #[.pointer (some ⟨B, f, none⟩), .agg #[.int .i64 k, .int .i64 p, .int .i64 q, .int .i64 u, .int .i64 v, .int .i64 c, .int .i64 x, .int .i64 y], undef, .pointer (some ⟨C, 0, none⟩), .int .i64 0, .pointer (some ⟨B, f, none⟩), .pointer (some ⟨B, f, none⟩), .slice a l cap, .int .i64 (l : Int), .bool false, .pointer (some ⟨B, f, none⟩), .pointer (some ⟨B, f, none⟩), undef, undef, undef, undef, undef, undef], defers := [] } : Act) _
    refine take_pure 2 (v := .pointer (some ⟨B, f, none⟩)) rfl (by kernel_rfl) rfl (fun w' hw => by simp [execOp, go_sem]) hH ?_
    show wpAnyH _ _ _ _ _ _ _ ({ tmps := #[.pointer (some ⟨B, f, none⟩), .agg #[.int .i64 k, .int .i64 p, .int .i64 q, .int .i64 u, .int .i64 v, .int .i64 c, .int .i64 x, .int .i64 y], undef, .pointer (some ⟨C, 0, none⟩), .int .i64 0, .pointer (some ⟨B, f, none⟩), .pointer (some ⟨B, f, none⟩), .slice a l cap, .int .i64 (l : Int), .bool false, .pointer (some ⟨B, f, none⟩), .pointer (some ⟨B, f, none⟩), .pointer (some ⟨B, f, none⟩), undef, undef, undef, undef, undef], defers := [] } : Act) _
    refine take_pure 4 (v := .agg #[.int .i64 k, .int .i64 p, .int .i64 q, .int .i64 u, .int .i64 v, .int .i64 c, .int .i64 x, .int .i64 y]) rfl (by kernel_rfl) rfl (fun w' hw => exec_range 38 (.tmp 3) rfl C 0 rfl [.int .i64 k, .int .i64 p, .int .i64 q, .int .i64 u, .int .i64 v, .int .i64 c, .int .i64 x, .int .i64 y] _ hw.1.range Try.underlying38 rfl infoFt) hH ?_
    show wpAnyH _ _ _ _ _ _ _ ({ tmps := #[.pointer (some ⟨B, f, none⟩), .agg #[.int .i64 k, .int .i64 p, .int .i64 q, .int .i64 u, .int .i64 v, .int .i64 c, .int .i64 x, .int .i64 y], undef, .pointer (some ⟨C, 0, none⟩), .int .i64 0, .pointer (some ⟨B, f, none⟩), .pointer (some ⟨B, f, none⟩), .slice a l cap, .int .i64 (l : Int), .bool false, .pointer (some ⟨B, f, none⟩), .pointer (some ⟨B, f, none⟩), .pointer (some ⟨B, f, none⟩), undef, .agg #[.int .i64 k, .int .i64 p, .int .i64 q, .int .i64 u, .int .i64 v, .int .i64 c, .int .i64 x, .int .i64 y], undef, undef, undef], defers := [] } : Act) _
    refine take_two 3 5 rfl rfl rfl rfl (by kernel_rfl) ?_ ?_
    · refine wp_loadc (.tmp 12) rfl B f rfl (.slice a l cap) (HS.out.2) ?_
      refine ⟨hH, fun hH => ?_⟩
      show wpAnyH _ _ _ _ _ _ _ ({ tmps := #[.pointer (some ⟨B, f, none⟩), .agg #[.int .i64 k, .int .i64 p, .int .i64 q, .int .i64 u, .int .i64 v, .int .i64 c, .int .i64 x, .int .i64 y], undef, .pointer (some ⟨C, 0, none⟩), .int .i64 0, .pointer (some ⟨B, f, none⟩), .pointer (some ⟨B, f, none⟩), .slice a l cap, .int .i64 (l : Int), .bool false, .pointer (some ⟨B, f, none⟩), .pointer (some ⟨B, f, none⟩), .pointer (some ⟨B, f, none⟩), .slice a l cap, .agg #[.int .i64 k, .int .i64 p, .int .i64 q, .int .i64 u, .int .i64 v, .int .i64 c, .int .i64 x, .int .i64 y], undef, undef, undef], defers := [] } : Act) _
      refine take_one 5 rfl rfl (by kernel_rfl) ?_
      refine wp_sliceTo 45 38 1 #[(0, .tmp 14)] rfl Try.underlying45 #[.int .i64 k, .int .i64 p, .int .i64 q, .int .i64 u, .int .i64 v, .int .i64 c, .int .i64 x, .int .i64 y] (by simpa [Act.eval] using hbF) ?_
      refine ⟨⟨hH.1.next ((Below.refl _ _).alloc (Nat.le_refl _) _), (let ⟨D', v', x, y⟩ := hH.2; ⟨D', v', x.alloc _, y⟩)⟩, fun hH => ?_⟩
      show wpAnyH _ _ _ _ _ _ _ ({ tmps := #[.pointer (some ⟨B, f, none⟩), .agg #[.int .i64 k, .int .i64 p, .int .i64 q, .int .i64 u, .int .i64 v, .int .i64 c, .int .i64 x, .int .i64 y], undef, .pointer (some ⟨C, 0, none⟩), .int .i64 0, .pointer (some ⟨B, f, none⟩), .pointer (some ⟨B, f, none⟩), .slice a l cap, .int .i64 (l : Int), .bool false, .pointer (some ⟨B, f, none⟩), .pointer (some ⟨B, f, none⟩), .pointer (some ⟨B, f, none⟩), .slice a l cap, .agg #[.int .i64 k, .int .i64 p, .int .i64 q, .int .i64 u, .int .i64 v, .int .i64 c, .int .i64 x, .int .i64 y], .slice (some ⟨V.drew.heap.size, 0, none⟩) 1 1, undef, undef], defers := [] } : Act) _
      refine take_one 6 rfl rfl (by kernel_rfl) ?_
      refine wp_appendTo (.tmp 13) (.tmp 15) 45 rfl (.slice a l cap) (.slice (some ⟨V.drew.heap.size, 0, none⟩) 1 1) (.slice a1 (l + 1) cap1) rfl rfl hap ?_
      refine ⟨⟨hF2, ⟨_, _, HB2.out, HC2.out.choose_spec⟩⟩, fun hH => ?_⟩
      show wpAnyH _ _ _ _ _ _ _ ({ tmps := #[.pointer (some ⟨B, f, none⟩), .agg #[.int .i64 k, .int .i64 p, .int .i64 q, .int .i64 u, .int .i64 v, .int .i64 c, .int .i64 x, .int .i64 y], undef, .pointer (some ⟨C, 0, none⟩), .int .i64 0, .pointer (some ⟨B, f, none⟩), .pointer (some ⟨B, f, none⟩), .slice a l cap, .int .i64 (l : Int), .bool false, .pointer (some ⟨B, f, none⟩), .pointer (some ⟨B, f, none⟩), .pointer (some ⟨B, f, none⟩), .slice a l cap, .agg #[.int .i64 k, .int .i64 p, .int .i64 q, .int .i64 u, .int .i64 v, .int .i64 c, .int .i64 x, .int .i64 y], .slice (some ⟨V.drew.heap.size, 0, none⟩) 1 1, .slice a1 (l + 1) cap1, undef], defers := [] } : Act) _
      refine take_pure 7 (v := .pointer (some ⟨B, f, none⟩)) rfl (by kernel_rfl) rfl (fun w' hw => by simp [execOp, go_sem]) hH ?_
      show wpAnyH _ _ _ _ _ _ _ ({ tmps := #[.pointer (some ⟨B, f, none⟩), .agg #[.int .i64 k, .int .i64 p, .int .i64 q, .int .i64 u, .int .i64 v, .int .i64 c, .int .i64 x, .int .i64 y], undef, .pointer (some ⟨C, 0, none⟩), .int .i64 0, .pointer (some ⟨B, f, none⟩), .pointer (some ⟨B, f, none⟩), .slice a l cap, .int .i64 (l : Int), .bool false, .pointer (some ⟨B, f, none⟩), .pointer (some ⟨B, f, none⟩), .pointer (some ⟨B, f, none⟩), .slice a l cap, .agg #[.int .i64 k, .int .i64 p, .int .i64 q, .int .i64 u, .int .i64 v, .int .i64 c, .int .i64 x, .int .i64 y], .slice (some ⟨V.drew.heap.size, 0, none⟩) 1 1, .slice a1 (l + 1) cap1, .pointer (some ⟨B, f, none⟩)], defers := [] } : Act) _
      refine take_one 8 rfl rfl (by kernel_rfl) ?_
      refine wp_store_slice (.tmp 17) (.tmp 16) rfl B f rfl a1 (l + 1) cap1 rfl _ (HB2.out.cell HC2.out.choose_spec) (HB2.out.free f) ?_
      rw [hW3]
      refine ⟨⟨HF.out.1.f, HF.out.1.b⟩, fun hH => ?_⟩
      show wpAnyH _ _ _ _ _ _ _ ({ tmps := #[.pointer (some ⟨B, f, none⟩), .agg #[.int .i64 k, .int .i64 p, .int .i64 q, .int .i64 u, .int .i64 v, .int .i64 c, .int .i64 x, .int .i64 y], undef, .pointer (some ⟨C, 0, none⟩), .int .i64 0, .pointer (some ⟨B, f, none⟩), .pointer (some ⟨B, f, none⟩), .slice a l cap, .int .i64 (l : Int), .bool false, .pointer (some ⟨B, f, none⟩), .pointer (some ⟨B, f, none⟩), .pointer (some ⟨B, f, none⟩), .slice a l cap, .agg #[.int .i64 k, .int .i64 p, .int .i64 q, .int .i64 u, .int .i64 v, .int .i64 c, .int .i64 x, .int .i64 y], .slice (some ⟨V.drew.heap.size, 0, none⟩) 1 1, .slice a1 (l + 1) cap1, .pointer (some ⟨B, f, none⟩)], defers := [] } : Act) _
      exact wpAnyH_done (by kernel_rfl) ⟨rfl, rfl⟩ _
    · refine wp_sliceTo 45 38 1 #[(0, .tmp 14)] rfl Try.underlying45 #[.int .i64 k, .int .i64 p, .int .i64 q, .int .i64 u, .int .i64 v, .int .i64 c, .int .i64 x, .int .i64 y] (by simpa [Act.eval] using hbF) ?_
      refine ⟨⟨hH.1.next ((Below.refl _ _).alloc (Nat.le_refl _) _), (let ⟨D', v', x, y⟩ := hH.2; ⟨D', v', x.alloc _, y⟩)⟩, fun hH => ?_⟩
      show wpAnyH _ _ _ _ _ _ _ ({ tmps := #[.pointer (some ⟨B, f, none⟩), .agg #[.int .i64 k, .int .i64 p, .int .i64 q, .int .i64 u, .int .i64 v, .int .i64 c, .int .i64 x, .int .i64 y], undef, .pointer (some ⟨C, 0, none⟩), .int .i64 0, .pointer (some ⟨B, f, none⟩), .pointer (some ⟨B, f, none⟩), .slice a l cap, .int .i64 (l : Int), .bool false, .pointer (some ⟨B, f, none⟩), .pointer (some ⟨B, f, none⟩), .pointer (some ⟨B, f, none⟩), undef, .agg #[.int .i64 k, .int .i64 p, .int .i64 q, .int .i64 u, .int .i64 v, .int .i64 c, .int .i64 x, .int .i64 y], .slice (some ⟨V.drew.heap.size, 0, none⟩) 1 1, undef, undef], defers := [] } : Act) _
      refine take_one 3 rfl rfl (by kernel_rfl) ?_
      refine wp_loadc (.tmp 12) rfl B f rfl (.slice a l cap) (Lib.cell?_alloc_some _ HS.out.2) ?_
      refine ⟨hH, fun hH => ?_⟩
      show wpAnyH _ _ _ _ _ _ _ ({ tmps := #[.pointer (some ⟨B, f, none⟩), .agg #[.int .i64 k, .int .i64 p, .int .i64 q, .int .i64 u, .int .i64 v, .int .i64 c, .int .i64 x, .int .i64 y], undef, .pointer (some ⟨C, 0, none⟩), .int .i64 0, .pointer (some ⟨B, f, none⟩), .pointer (some ⟨B, f, none⟩), .slice a l cap, .int .i64 (l : Int), .bool false, .pointer (some ⟨B, f, none⟩), .pointer (some ⟨B, f, none⟩), .pointer (some ⟨B, f, none⟩), .slice a l cap, .agg #[.int .i64 k, .int .i64 p, .int .i64 q, .int .i64 u, .int .i64 v, .int .i64 c, .int .i64 x, .int .i64 y], .slice (some ⟨V.drew.heap.size, 0, none⟩) 1 1, undef, undef], defers := [] } : Act) _
      refine take_one 6 rfl rfl (by kernel_rfl) ?_
      refine wp_appendTo (.tmp 13) (.tmp 15) 45 rfl (.slice a l cap) (.slice (some ⟨V.drew.heap.size, 0, none⟩) 1 1) (.slice a1 (l + 1) cap1) rfl rfl hap ?_
      refine ⟨⟨hF2, ⟨_, _, HB2.out, HC2.out.choose_spec⟩⟩, fun hH => ?_⟩
      show wpAnyH _ _ _ _ _ _ _ ({ tmps := #[.pointer (some ⟨B, f, none⟩), .agg #[.int .i64 k, .int .i64 p, .int .i64 q, .int .i64 u, .int .i64 v, .int .i64 c, .int .i64 x, .int .i64 y], undef, .pointer (some ⟨C, 0, none⟩), .int .i64 0, .pointer (some ⟨B, f, none⟩), .pointer (some ⟨B, f, none⟩), .slice a l cap, .int .i64 (l : Int), .bool false, .pointer (some ⟨B, f, none⟩), .pointer (some ⟨B, f, none⟩), .pointer (some ⟨B, f, none⟩), .slice a l cap, .agg #[.int .i64 k, .int .i64 p, .int .i64 q, .int .i64 u, .int .i64 v, .int .i64 c, .int .i64 x, .int .i64 y], .slice (some ⟨V.drew.heap.size, 0, none⟩) 1 1, .slice a1 (l + 1) cap1, undef], defers := [] } : Act) _
      refine take_pure 7 (v := .pointer (some ⟨B, f, none⟩)) rfl (by kernel_rfl) rfl (fun w' hw => by simp [execOp, go_sem]) hH ?_
      show wpAnyH _ _ _ _ _ _ _ ({ tmps := #[.pointer (some ⟨B, f, none⟩), .agg #[.int .i64 k, .int .i64 p, .int .i64 q, .int .i64 u, .int .i64 v, .int .i64 c, .int .i64 x, .int .i64 y], undef, .pointer (some ⟨C, 0, none⟩), .int .i64 0, .pointer (some ⟨B, f, none⟩), .pointer (some ⟨B, f, none⟩), .slice a l cap, .int .i64 (l : Int), .bool false, .pointer (some ⟨B, f, none⟩), .pointer (some ⟨B, f, none⟩), .pointer (some ⟨B, f, none⟩), .slice a l cap, .agg #[.int .i64 k, .int .i64 p, .int .i64 q, .int .i64 u, .int .i64 v, .int .i64 c, .int .i64 x, .int .i64 y], .slice (some ⟨V.drew.heap.size, 0, none⟩) 1 1, .slice a1 (l + 1) cap1, .pointer (some ⟨B, f, none⟩)], defers := [] } : Act) _
      refine take_one 8 rfl rfl (by kernel_rfl) ?_
      refine wp_store_slice (.tmp 17) (.tmp 16) rfl B f rfl a1 (l + 1) cap1 rfl _ (HB2.out.cell HC2.out.choose_spec) (HB2.out.free f) ?_
      rw [hW3]
      refine ⟨⟨HF.out.1.f, HF.out.1.b⟩, fun hH => ?_⟩
      show wpAnyH _ _ _ _ _ _ _ ({ tmps := #[.pointer (some ⟨B, f, none⟩), .agg #[.int .i64 k, .int .i64 p, .int .i64 q, .int .i64 u, .int .i64 v, .int .i64 c, .int .i64 x, .int .i64 y], undef, .pointer (some ⟨C, 0, none⟩), .int .i64 0, .pointer (some ⟨B, f, none⟩), .pointer (some ⟨B, f, none⟩), .slice a l cap, .int .i64 (l : Int), .bool false, .pointer (some ⟨B, f, none⟩), .pointer (some ⟨B, f, none⟩), .pointer (some ⟨B, f, none⟩), .slice a l cap, .agg #[.int .i64 k, .int .i64 p, .int .i64 q, .int .i64 u, .int .i64 v, .int .i64 c, .int .i64 x, .int .i64 y], .slice (some ⟨V.drew.heap.size, 0, none⟩) 1 1, .slice a1 (l + 1) cap1, .pointer (some ⟨B, f, none⟩)], defers := [] } : Act) _
      exact wpAnyH_done (by kernel_rfl) ⟨rfl, rfl⟩ _
  case aft =>
    obtain ⟨rfl, rfl⟩ := hr
    clear hap HS
    rw [hC] at HF
    go_wp2
    go_ret
    exact ⟨rfl, _, HF.out.2.1, HF.out.2.2.1, HF.out.2.2.2.1, HF.out.2.2.2.2.1, HF.out.2.2.2.2.2⟩
end Go.Proofs.Ytcpjmfemgdgplaa
