/-
  A bit that is stored is turned.
-/
import Derived.Test.YtcpjmfemgdgplaaDrW6
import Derived.Test.YtcpjmfemgdgplaaDrW9
namespace Go.Proofs.Ytcpjmfemgdgplaa
open Go.RowKit Go.Shelf
open Ge (pw rt hd ix)
attribute [local go_sem] Oper.semAt_some

theorem wp_known1 {P : Program} {o : Oper} {a : Act} {w : World} {K : Act → World → Prop} {Q : Exit → Act → World → Prop} (v : Value) (hx : (execOp a.eval o).run P w = .ok (.value v) w) (h : K (a.put o.dst v) w) : Oper.wp P o a w K Q := by
  unfold Oper.wp
  rw [hx]
  exact h
theorem flR_byt (F : Nat → Int) (hF : Byts 72 F) (i : Nat) : Byts 72 (flR F i) := by
  intro j hj
  rw [flR_at F hF i j hj]
  have h1 := hF j hj
  split
  · have h2 : (F j).toNat < 2 ^ 8 := by omega
    have h3 : 2 ^ (i % 8) < 2 ^ 8 := Nat.pow_lt_pow_right (by omega) (by omega)
    have := Nat.xor_lt_two_pow h2 h3
    omega
  · exact h1
section
variable {W : World} {lo B M R : Nat} {r s b o d m : Int} {n : Nat} {G : Int → Nat → Int} {vb vc : Value} {l1 l2 : Nat} {Y Z : Nat → Nat → Int}
set_option maxRecDepth 100000 in
set_option maxHeartbeats 4000000 in
theorem dFlip_any (h : Dm W lo B M r s b o d m n G vb l1 Y vc l2 Z) (k p q u v c : Int) (x : Nat) (y : Int) (hx : x < 576) (hn : n < 1000000) (hh : hd r s b o d p q u v = true) :
    Calls Try.prog 50 #[.pointer (some ⟨B, 0, none⟩), .agg #[.int .i64 k, .int .i64 p, .int .i64 q, .int .i64 u, .int .i64 v, .int .i64 c, .int .i64 (x : Int), .int .i64 y]] W fun e w' => e = .returned (.tuple #[]) ∧ Dm w' lo B M r s b o d m (n + 1) (gput G (ix p q u v) (flR (G (ix p q u v)) x)) vb l1 Y vc l2 Z ∧ Mv lo (mine B M vb vc) W w' := by
  have CI : Hid (∀ w, Below W.heap.size W w → Calls Try.prog 74 #[.pointer (some ⟨B, 0, none⟩), .agg #[.int .i64 k, .int .i64 p, .int .i64 q, .int .i64 u, .int .i64 v, .int .i64 c, .int .i64 (x : Int), .int .i64 y]] w fun e w' => e = .returned (.int .i64 (ix p q u v)) ∧ Below w.heap.size w w') := fun w hw => dIndexOf_any (h.next hw) k p q u v c x y hh
  have HX : Hid (x < 576) := hx
  have hwx : I64 (ix p q u v) := hx_i64 (hx_ix hh)
  obtain ⟨z, hz⟩ : ∃ z, ix p q u v = z := ⟨_, rfl⟩
  rw [hz] at hwx
  rw [hz] at CI ⊢
  have CF : Hid (∀ w : World, Calls Try.prog 33 #[.agg (ints .u8 72 (G z)).toArray, .int .i64 (x : Int)] w fun e w' => e = .returned (.agg (ints .u8 72 (flR (G z) x)).toArray) ∧ Below w.heap.size w w') := fun w => flipR_yes (G z) (h.by_ z) x hx w
  have HFF : Hid (Byts 72 (flR (G z) x)) := flR_byt _ (h.by_ z) x
  obtain ⟨F3, hF3⟩ : ∃ F, flR (G z) x = F := ⟨_, rfl⟩
  rw [hF3] at CF HFF ⊢
  obtain ⟨L3, hL3⟩ : ∃ L, ints .u8 72 F3 = L := ⟨_, rfl⟩
  obtain ⟨L2, hL2⟩ : ∃ L, ints .u8 72 (G z) = L := ⟨_, rfl⟩
  have HLK : Hid (∀ W', MpAt W' M n G → (Instr.lookup 80 (.map (some M)) (.int .i64 z) false).run Try.prog W' = .ok (.agg L2.toArray) W') := fun W' h' => by rw [← hL2]; exact h'.look hwx
  have HP : Hid (∀ W', MpAt W' M n G → ∃ W2, (Instr.mapUpdate 80 (.map (some M)) (.int .i64 z) (.agg L3.toArray)).run Try.prog W' = .ok () W2 ∧ MpAt W2 M (n + 1) (gput G z F3) ∧ W'.grownBy W2 (some M)) := fun W' h' => by rw [← hL3]; exact h'.put hwx (by unfold maxLen; omega) F3
  rw [hL2, hL3] at CF
  have HD : Hid (Dm W lo B M r s b o d m n G vb l1 Y vc l2 Z) := h
  clear hL2 hL3 hF3 hwx hz h hx hn hh
  go_enter Try.func50, Try.ntmps50
  go_upto_region 1 with (fail)
  obtain ⟨C, hC⟩ : ∃ C, W.heap.size = C := ⟨_, rfl⟩
  obtain ⟨V, hV⟩ : ∃ V, W.alloc (.cells #[.int .i64 k, .int .i64 p, .int .i64 q, .int .i64 u, .int .i64 v, .int .i64 c, .int .i64 (x : Int), .int .i64 y] 38) = V := ⟨_, rfl⟩
  have HS : Hid (Fa lo B M r s b o d m n G vb l1 Y vc l2 Z C k p q u v c x y W V) := by
    have b1 : Below W.heap.size W V := by rw [← hV]; exact (Below.refl _ W).alloc (Nat.le_refl _) _
    refine ⟨HD.out.next b1, ?_, b1⟩
    rw [← hV, ← hC]
    exact Ft.new W k p q u v c x y _
  have HCM : Hid (∀ g, mine B M vb vc g → g < C) := fun g hg => by rw [← hC]; exact (HD.out.mine_lt g hg).2
  rw [hV, hC]
  clear hV
  have hr := HS.out.f.range
  go_wp2_with (first | refine wpList_load_mid rfl 38 _ rfl C 0 rfl [.int .i64 k, .int .i64 p, .int .i64 q, .int .i64 u, .int .i64 v, .int .i64 c, .int .i64 (x : Int), .int .i64 y] _ hr Try.underlying38 rfl infoFt ?_)
  refine (CI.out _ HS.out.n).mono ?_
  rintro e W1 ⟨rfl, b1⟩
  replace HS : Hid (Fa lo B M r s b o d m n G vb l1 Y vc l2 Z C k p q u v c x y W W1) := HS.out.next b1
  clear hr b1 CI
  go_upto_region 2 with (fail)
  refine region_ends (by kernel_rfl) (fun W' => Ft W' C k p q u v c x y ∧ ∃ vb vc, Cb W' B (dl r s b o d m (.map (some M)) vb vc)) (fun a2 W' => a2 = ({ tmps := #[.pointer (some ⟨B, 0, none⟩), .agg #[.int .i64 k, .int .i64 p, .int .i64 q, .int .i64 u, .int .i64 v, .int .i64 c, .int .i64 (x : Int), .int .i64 y], undef, .pointer (some ⟨C, 0, none⟩), .int .i64 z, .pointer (some ⟨B, 0, none⟩), .agg #[.int .i64 k, .int .i64 p, .int .i64 q, .int .i64 u, .int .i64 v, .int .i64 c, .int .i64 (x : Int), .int .i64 y], .int .i64 z, .pointer (some ⟨B, 0, none⟩), .pointer (some ⟨B, 0, none⟩), .pointer (some ⟨B, 6, none⟩), .map (some M), .int .i64 z, .pointer (some ⟨B, 0, none⟩), .pointer (some ⟨B, 0, none⟩), .pointer (some ⟨B, 6, none⟩), .map (some M), .int .i64 z, .agg L2.toArray, .pointer (some ⟨C, 6, none⟩), .int .i64 (x : Int), .agg L3.toArray], defers := [] } : Act) ∧ Dm W' lo B M r s b o d m (n + 1) (gput G z F3) vb l1 Y vc l2 Z ∧ Mv lo (mine B M vb vc) W W') ⟨(HS.out.next (below_drew1 _)).f, _, _, (HS.out.next (below_drew1 _)).d.c⟩ (fun hH => ?reg) (fun a2 V3 hr => ?aft)
  case reg =>
    refine take_pure 0 (v := .pointer (some ⟨B, 0, none⟩)) rfl (by kernel_rfl) rfl (fun w' hw => by simp [execOp, go_sem]) hH ?_
    show wpAnyH _ _ _ _ _ _ _ ({ tmps := #[.pointer (some ⟨B, 0, none⟩), .agg #[.int .i64 k, .int .i64 p, .int .i64 q, .int .i64 u, .int .i64 v, .int .i64 c, .int .i64 (x : Int), .int .i64 y], undef, .pointer (some ⟨C, 0, none⟩), .int .i64 z, .pointer (some ⟨B, 0, none⟩), .agg #[.int .i64 k, .int .i64 p, .int .i64 q, .int .i64 u, .int .i64 v, .int .i64 c, .int .i64 (x : Int), .int .i64 y], .int .i64 z, .pointer (some ⟨B, 0, none⟩), undef, undef, undef, undef, undef, undef, undef, undef, undef, undef, undef, undef, undef], defers := [] } : Act) _
    refine take_pure 1 (v := .pointer (some ⟨B, 0, none⟩)) rfl (by kernel_rfl) rfl (fun w' hw => by simp [execOp, go_sem]) hH ?_
    show wpAnyH _ _ _ _ _ _ _ ({ tmps := #[.pointer (some ⟨B, 0, none⟩), .agg #[.int .i64 k, .int .i64 p, .int .i64 q, .int .i64 u, .int .i64 v, .int .i64 c, .int .i64 (x : Int), .int .i64 y], undef, .pointer (some ⟨C, 0, none⟩), .int .i64 z, .pointer (some ⟨B, 0, none⟩), .agg #[.int .i64 k, .int .i64 p, .int .i64 q, .int .i64 u, .int .i64 v, .int .i64 c, .int .i64 (x : Int), .int .i64 y], .int .i64 z, .pointer (some ⟨B, 0, none⟩), .pointer (some ⟨B, 0, none⟩), undef, undef, undef, undef, undef, undef, undef, undef, undef, undef, undef, undef], defers := [] } : Act) _
    refine take_pure 2 (v := .pointer (some ⟨B, 6, none⟩)) rfl (by kernel_rfl) rfl (fun w' hw => by simp [execOp, go_sem]) hH ?_
    show wpAnyH _ _ _ _ _ _ _ ({ tmps := #[.pointer (some ⟨B, 0, none⟩), .agg #[.int .i64 k, .int .i64 p, .int .i64 q, .int .i64 u, .int .i64 v, .int .i64 c, .int .i64 (x : Int), .int .i64 y], undef, .pointer (some ⟨C, 0, none⟩), .int .i64 z, .pointer (some ⟨B, 0, none⟩), .agg #[.int .i64 k, .int .i64 p, .int .i64 q, .int .i64 u, .int .i64 v, .int .i64 c, .int .i64 (x : Int), .int .i64 y], .int .i64 z, .pointer (some ⟨B, 0, none⟩), .pointer (some ⟨B, 0, none⟩), .pointer (some ⟨B, 6, none⟩), undef, undef, undef, undef, undef, undef, undef, undef, undef, undef, undef], defers := [] } : Act) _
    refine take_pure 3 (v := .map (some M)) rfl (by kernel_rfl) rfl (fun w' hw => by obtain ⟨_, _, hc⟩ := hw.2; simp [execOp, go_sem, hc.cell (i := 6) rfl]) hH ?_
    show wpAnyH _ _ _ _ _ _ _ ({ tmps := #[.pointer (some ⟨B, 0, none⟩), .agg #[.int .i64 k, .int .i64 p, .int .i64 q, .int .i64 u, .int .i64 v, .int .i64 c, .int .i64 (x : Int), .int .i64 y], undef, .pointer (some ⟨C, 0, none⟩), .int .i64 z, .pointer (some ⟨B, 0, none⟩), .agg #[.int .i64 k, .int .i64 p, .int .i64 q, .int .i64 u, .int .i64 v, .int .i64 c, .int .i64 (x : Int), .int .i64 y], .int .i64 z, .pointer (some ⟨B, 0, none⟩), .pointer (some ⟨B, 0, none⟩), .pointer (some ⟨B, 6, none⟩), .map (some M), undef, undef, undef, undef, undef, undef, undef, undef, undef, undef], defers := [] } : Act) _
    refine take_pure 4 (v := .int .i64 z) rfl (by kernel_rfl) rfl (fun w' hw => by simp [execOp, go_sem]) hH ?_
    show wpAnyH _ _ _ _ _ _ _ ({ tmps := #[.pointer (some ⟨B, 0, none⟩), .agg #[.int .i64 k, .int .i64 p, .int .i64 q, .int .i64 u, .int .i64 v, .int .i64 c, .int .i64 (x : Int), .int .i64 y], undef, .pointer (some ⟨C, 0, none⟩), .int .i64 z, .pointer (some ⟨B, 0, none⟩), .agg #[.int .i64 k, .int .i64 p, .int .i64 q, .int .i64 u, .int .i64 v, .int .i64 c, .int .i64 (x : Int), .int .i64 y], .int .i64 z, .pointer (some ⟨B, 0, none⟩), .pointer (some ⟨B, 0, none⟩), .pointer (some ⟨B, 6, none⟩), .map (some M), .int .i64 z, undef, undef, undef, undef, undef, undef, undef, undef, undef], defers := [] } : Act) _
    refine take_pure 5 (v := .pointer (some ⟨B, 0, none⟩)) rfl (by kernel_rfl) rfl (fun w' hw => by simp [execOp, go_sem]) hH ?_
    show wpAnyH _ _ _ _ _ _ _ ({ tmps := #[.pointer (some ⟨B, 0, none⟩), .agg #[.int .i64 k, .int .i64 p, .int .i64 q, .int .i64 u, .int .i64 v, .int .i64 c, .int .i64 (x : Int), .int .i64 y], undef, .pointer (some ⟨C, 0, none⟩), .int .i64 z, .pointer (some ⟨B, 0, none⟩), .agg #[.int .i64 k, .int .i64 p, .int .i64 q, .int .i64 u, .int .i64 v, .int .i64 c, .int .i64 (x : Int), .int .i64 y], .int .i64 z, .pointer (some ⟨B, 0, none⟩), .pointer (some ⟨B, 0, none⟩), .pointer (some ⟨B, 6, none⟩), .map (some M), .int .i64 z, .pointer (some ⟨B, 0, none⟩), undef, undef, undef, undef, undef, undef, undef, undef], defers := [] } : Act) _
    refine take_pure 6 (v := .pointer (some ⟨B, 0, none⟩)) rfl (by kernel_rfl) rfl (fun w' hw => by simp [execOp, go_sem]) hH ?_
    show wpAnyH _ _ _ _ _ _ _ ({ tmps := #[.pointer (some ⟨B, 0, none⟩), .agg #[.int .i64 k, .int .i64 p, .int .i64 q, .int .i64 u, .int .i64 v, .int .i64 c, .int .i64 (x : Int), .int .i64 y], undef, .pointer (some ⟨C, 0, none⟩), .int .i64 z, .pointer (some ⟨B, 0, none⟩), .agg #[.int .i64 k, .int .i64 p, .int .i64 q, .int .i64 u, .int .i64 v, .int .i64 c, .int .i64 (x : Int), .int .i64 y], .int .i64 z, .pointer (some ⟨B, 0, none⟩), .pointer (some ⟨B, 0, none⟩), .pointer (some ⟨B, 6, none⟩), .map (some M), .int .i64 z, .pointer (some ⟨B, 0, none⟩), .pointer (some ⟨B, 0, none⟩), undef, undef, undef, undef, undef, undef, undef], defers := [] } : Act) _
    refine take_pure 7 (v := .pointer (some ⟨B, 6, none⟩)) rfl (by kernel_rfl) rfl (fun w' hw => by simp [execOp, go_sem]) hH ?_
    show wpAnyH _ _ _ _ _ _ _ ({ tmps := #[.pointer (some ⟨B, 0, none⟩), .agg #[.int .i64 k, .int .i64 p, .int .i64 q, .int .i64 u, .int .i64 v, .int .i64 c, .int .i64 (x : Int), .int .i64 y], undef, .pointer (some ⟨C, 0, none⟩), .int .i64 z, .pointer (some ⟨B, 0, none⟩), .agg #[.int .i64 k, .int .i64 p, .int .i64 q, .int .i64 u, .int .i64 v, .int .i64 c, .int .i64 (x : Int), .int .i64 y], .int .i64 z, .pointer (some ⟨B, 0, none⟩), .pointer (some ⟨B, 0, none⟩), .pointer (some ⟨B, 6, none⟩), .map (some M), .int .i64 z, .pointer (some ⟨B, 0, none⟩), .pointer (some ⟨B, 0, none⟩), .pointer (some ⟨B, 6, none⟩), undef, undef, undef, undef, undef, undef], defers := [] } : Act) _
    refine take_pure 8 (v := .map (some M)) rfl (by kernel_rfl) rfl (fun w' hw => by obtain ⟨_, _, hc⟩ := hw.2; simp [execOp, go_sem, hc.cell (i := 6) rfl]) hH ?_
    show wpAnyH _ _ _ _ _ _ _ ({ tmps := #[.pointer (some ⟨B, 0, none⟩), .agg #[.int .i64 k, .int .i64 p, .int .i64 q, .int .i64 u, .int .i64 v, .int .i64 c, .int .i64 (x : Int), .int .i64 y], undef, .pointer (some ⟨C, 0, none⟩), .int .i64 z, .pointer (some ⟨B, 0, none⟩), .agg #[.int .i64 k, .int .i64 p, .int .i64 q, .int .i64 u, .int .i64 v, .int .i64 c, .int .i64 (x : Int), .int .i64 y], .int .i64 z, .pointer (some ⟨B, 0, none⟩), .pointer (some ⟨B, 0, none⟩), .pointer (some ⟨B, 6, none⟩), .map (some M), .int .i64 z, .pointer (some ⟨B, 0, none⟩), .pointer (some ⟨B, 0, none⟩), .pointer (some ⟨B, 6, none⟩), .map (some M), undef, undef, undef, undef, undef], defers := [] } : Act) _
    refine take_pure 9 (v := .int .i64 z) rfl (by kernel_rfl) rfl (fun w' hw => by simp [execOp, go_sem]) hH ?_
    show wpAnyH _ _ _ _ _ _ _ ({ tmps := #[.pointer (some ⟨B, 0, none⟩), .agg #[.int .i64 k, .int .i64 p, .int .i64 q, .int .i64 u, .int .i64 v, .int .i64 c, .int .i64 (x : Int), .int .i64 y], undef, .pointer (some ⟨C, 0, none⟩), .int .i64 z, .pointer (some ⟨B, 0, none⟩), .agg #[.int .i64 k, .int .i64 p, .int .i64 q, .int .i64 u, .int .i64 v, .int .i64 c, .int .i64 (x : Int), .int .i64 y], .int .i64 z, .pointer (some ⟨B, 0, none⟩), .pointer (some ⟨B, 0, none⟩), .pointer (some ⟨B, 6, none⟩), .map (some M), .int .i64 z, .pointer (some ⟨B, 0, none⟩), .pointer (some ⟨B, 0, none⟩), .pointer (some ⟨B, 6, none⟩), .map (some M), .int .i64 z, undef, undef, undef, undef], defers := [] } : Act) _
    refine take_pure 11 (v := .pointer (some ⟨C, 6, none⟩)) rfl (by kernel_rfl) rfl (fun w' hw => by simp [execOp, go_sem]) hH ?_
    show wpAnyH _ _ _ _ _ _ _ ({ tmps := #[.pointer (some ⟨B, 0, none⟩), .agg #[.int .i64 k, .int .i64 p, .int .i64 q, .int .i64 u, .int .i64 v, .int .i64 c, .int .i64 (x : Int), .int .i64 y], undef, .pointer (some ⟨C, 0, none⟩), .int .i64 z, .pointer (some ⟨B, 0, none⟩), .agg #[.int .i64 k, .int .i64 p, .int .i64 q, .int .i64 u, .int .i64 v, .int .i64 c, .int .i64 (x : Int), .int .i64 y], .int .i64 z, .pointer (some ⟨B, 0, none⟩), .pointer (some ⟨B, 0, none⟩), .pointer (some ⟨B, 6, none⟩), .map (some M), .int .i64 z, .pointer (some ⟨B, 0, none⟩), .pointer (some ⟨B, 0, none⟩), .pointer (some ⟨B, 6, none⟩), .map (some M), .int .i64 z, undef, .pointer (some ⟨C, 6, none⟩), undef, undef], defers := [] } : Act) _
    refine take_pure 12 (v := .int .i64 (x : Int)) rfl (by kernel_rfl) rfl (fun w' hw => by simp [execOp, go_sem, hw.1.c6]) hH ?_
    show wpAnyH _ _ _ _ _ _ _ ({ tmps := #[.pointer (some ⟨B, 0, none⟩), .agg #[.int .i64 k, .int .i64 p, .int .i64 q, .int .i64 u, .int .i64 v, .int .i64 c, .int .i64 (x : Int), .int .i64 y], undef, .pointer (some ⟨C, 0, none⟩), .int .i64 z, .pointer (some ⟨B, 0, none⟩), .agg #[.int .i64 k, .int .i64 p, .int .i64 q, .int .i64 u, .int .i64 v, .int .i64 c, .int .i64 (x : Int), .int .i64 y], .int .i64 z, .pointer (some ⟨B, 0, none⟩), .pointer (some ⟨B, 0, none⟩), .pointer (some ⟨B, 6, none⟩), .map (some M), .int .i64 z, .pointer (some ⟨B, 0, none⟩), .pointer (some ⟨B, 0, none⟩), .pointer (some ⟨B, 6, none⟩), .map (some M), .int .i64 z, undef, .pointer (some ⟨C, 6, none⟩), .int .i64 (x : Int), undef], defers := [] } : Act) _
    refine take_one 10 rfl rfl (by kernel_rfl) ?_
    refine wp_known1 (.agg L2.toArray) (exec_look 80 (.tmp 16) (.tmp 17) rfl (.map (some M)) (.int .i64 z) (.agg L2.toArray) rfl rfl (HLK.out _ (HS.out.next (below_drew1 _)).d.mp)) ?_
    refine ⟨hH, fun hH => ?_⟩
    show wpAnyH _ _ _ _ _ _ _ ({ tmps := #[.pointer (some ⟨B, 0, none⟩), .agg #[.int .i64 k, .int .i64 p, .int .i64 q, .int .i64 u, .int .i64 v, .int .i64 c, .int .i64 (x : Int), .int .i64 y], undef, .pointer (some ⟨C, 0, none⟩), .int .i64 z, .pointer (some ⟨B, 0, none⟩), .agg #[.int .i64 k, .int .i64 p, .int .i64 q, .int .i64 u, .int .i64 v, .int .i64 c, .int .i64 (x : Int), .int .i64 y], .int .i64 z, .pointer (some ⟨B, 0, none⟩), .pointer (some ⟨B, 0, none⟩), .pointer (some ⟨B, 6, none⟩), .map (some M), .int .i64 z, .pointer (some ⟨B, 0, none⟩), .pointer (some ⟨B, 0, none⟩), .pointer (some ⟨B, 6, none⟩), .map (some M), .int .i64 z, .agg L2.toArray, .pointer (some ⟨C, 6, none⟩), .int .i64 (x : Int), undef], defers := [] } : Act) _
    refine take_one 13 rfl rfl (by kernel_rfl) ?_
    refine wp_contract 33 [.tmp 18, .tmp 20] _ rfl (enters_of Try.func33 (by kernel_rfl) rfl) [.agg L2.toArray, .int .i64 (x : Int)] rfl (CF.out _) ?_
    rintro e W' ⟨rfl, b2⟩
    have hq := (HS.out.next (below_drew1 _)).next b2
    refine ⟨_, rfl, ⟨hq.f, _, _, hq.d.c⟩, fun hH => ?_⟩
    show wpAnyH _ _ _ _ _ _ _ ({ tmps := #[.pointer (some ⟨B, 0, none⟩), .agg #[.int .i64 k, .int .i64 p, .int .i64 q, .int .i64 u, .int .i64 v, .int .i64 c, .int .i64 (x : Int), .int .i64 y], undef, .pointer (some ⟨C, 0, none⟩), .int .i64 z, .pointer (some ⟨B, 0, none⟩), .agg #[.int .i64 k, .int .i64 p, .int .i64 q, .int .i64 u, .int .i64 v, .int .i64 c, .int .i64 (x : Int), .int .i64 y], .int .i64 z, .pointer (some ⟨B, 0, none⟩), .pointer (some ⟨B, 0, none⟩), .pointer (some ⟨B, 6, none⟩), .map (some M), .int .i64 z, .pointer (some ⟨B, 0, none⟩), .pointer (some ⟨B, 0, none⟩), .pointer (some ⟨B, 6, none⟩), .map (some M), .int .i64 z, .agg L2.toArray, .pointer (some ⟨C, 6, none⟩), .int .i64 (x : Int), .agg L3.toArray], defers := [] } : Act) _
    obtain ⟨W4, hput, hmp, hgr⟩ := HP.out _ hq.d.mp
    have hMW := HCM.out M (.inr (.inl rfl))
    have hBW := HCM.out B (.inl rfl)
    have hk : ∀ g, g < W'.heap.size → M ≠ g → W4.heap[g]? = W'.heap[g]? := fun g h1 h2 => hgr.block g h1 (fun e => h2 (by cases e; rfl))
    have hfin : Dm W4 lo B M r s b o d m (n + 1) (gput G z F3) vb l1 Y vc l2 Z ∧ Mv lo (mine B M vb vc) W W4 := by
      refine ⟨hq.d.put HFF.out hmp hgr, ⟨?_, fun g hg hm => ?_⟩⟩
      · exact below_grown7 (hq.n.mono HD.out.lo_le) hgr (fun g e => by cases e; exact hq.d.lm) hq.d.lo_le
      · exact (hk g (Nat.lt_of_lt_of_le hg hq.n.size) (fun e => hm (.inr (.inl e.symm)))).trans (hq.n.block g hg)
    have hf4 : Ft W4 C k p q u v c x y := Bk.of hq.f (hk C hq.f.lt (by omega))
    refine take_one 14 rfl rfl (by kernel_rfl) ?_
    refine wp_mapput 80 (.tmp 11) (.tmp 12) (.tmp 21) rfl (.map (some M)) (.int .i64 z) (.agg L3.toArray) rfl rfl rfl hput ?_
    refine ⟨⟨hf4, _, _, hfin.1.c⟩, fun hH => ?_⟩
    exact wpAnyH_done (by kernel_rfl) ⟨rfl, hfin⟩ _
  case aft =>
    obtain ⟨rfl, h1, h2⟩ := hr
    have HF : Hid (Dm V3 lo B M r s b o d m (n + 1) (gput G z F3) vb l1 Y vc l2 Z ∧ Mv lo (mine B M vb vc) W V3) := ⟨h1, h2⟩
    clear h1 h2 HS HP HLK CF
    go_wp2
    exact Great.bodyPost_end0 rfl rfl ⟨rfl, HF.out.1, HF.out.2⟩
end
end Go.Proofs.Ytcpjmfemgdgplaa
