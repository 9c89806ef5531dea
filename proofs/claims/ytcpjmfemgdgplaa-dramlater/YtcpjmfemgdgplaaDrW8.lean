/-
  A fault is put behind others: what put's one region does.
-/
import Derived.Test.YtcpjmfemgdgplaaDrW5
import Derived.Great.Walk
import Derived.Maps.AppendAt
namespace Go.Proofs.Ytcpjmfemgdgplaa
open Go.RowKit Go.Shelf
open Ge (pw rt hd ix)
attribute [local go_sem] Oper.semAt_some

theorem wp_sliceTo {P : Program} {o : Oper} {a : Act} {w : World} {K : Act → World → Prop} {Q : Exit → Act → World → Prop} (t e : TypeId) (len : Nat) (parts : Array (Nat × Operand)) (ho : o.op = .buildSlice t len parts)
    (hu : P.underlying t = some (.slice e)) (cells : Array Value) (hf : P.builtSlice e len (parts.map fun (i, x) => (i, a.eval x)).toList = some cells)
    (h : K (a.put o.dst (.slice (some ⟨w.heap.size, 0, none⟩) len len)) (w.alloc (.cells cells e))) : Oper.wp P o a w K Q := by
  unfold Program.builtSlice at hf
  cases hie : P.info? e with
  | none => simp [hie] at hf
  | some ie =>
    simp only [hie] at hf
    cases hz : ie.zero with
    | none => simp [hz] at hf
    | some z =>
      simp only [hz] at hf
      by_cases hc : len * ie.size > 2 ^ 24 ∨ len * ie.size = 0
      · simp [hc] at hf
      · rw [if_neg hc] at hf
        exact wp_buildSlice t e len parts ho cells ie z hu hie hz (fun h' => hc (Or.inl h')) (fun h' => hc (Or.inr h')) hf h
theorem wp_appendTo {P : Program} {o : Oper} {a : Act} {w w' : World} {K : Act → World → Prop} {Q : Exit → Act → World → Prop} (s x : Operand) (t : TypeId) (ho : o.op = .call { callee := .builtin .append, args := #[s, x], argTypes := #[t, t] })
    (vs vx v : Value) (hs : a.eval s = vs) (hx : a.eval x = vx) (hr : (Builtin.append_ #[t, t] o.type #[vs, vx]).run P w = .ok v w') (h : K (a.put o.dst v) w') : Oper.wp P o a w K Q := by
  unfold Oper.wp execOp
  simp only [ho, resolve, invoke, builtin, Sem.run_bind, Sem.run_pure, Result.andThen_ok, List.map_toArray, List.map_cons, List.map_nil, hs, hx, hr]
  exact h
theorem builtFl (k p q u v c x y : Int) : Try.prog.builtSlice 38 1 [(0, .agg #[.int .i64 k, .int .i64 p, .int .i64 q, .int .i64 u, .int .i64 v, .int .i64 c, .int .i64 x, .int .i64 y])] = some #[.int .i64 k, .int .i64 p, .int .i64 q, .int .i64 u, .int .i64 v, .int .i64 c, .int .i64 x, .int .i64 y] := by kernel_rfl
/-- a fault put behind those of an owned row, the block laid ahead of it and all -/
theorem append_one (lo l : Nat) (v0 : Value) (Z : Nat → Nat → Int) (k p q u v c x y : Int) (W : World) (ty : TypeId) (hl : l < 256) (hlo : lo ≤ W.heap.size) (h : W.ownsRow lo 38 8 v0 l (fcells12 l Z)) :
    ∃ v1 W', (Builtin.append_ #[45, 45] ty #[v0, .slice (some ⟨W.heap.size, 0, none⟩) 1 1]).run Try.prog (W.alloc (.cells #[.int .i64 k, .int .i64 p, .int .i64 q, .int .i64 u, .int .i64 v, .int .i64 c, .int .i64 x, .int .i64 y] 38)) = .ok v1 W' ∧
      W'.ownsRow lo 38 8 v1 (l + 1) (fcells12 (l + 1) (snZ Z l (ffn k p q u v c x y))) ∧ W.grownBy W' v0.ownBlock ∧ (v1.ownBlock = v0.ownBlock ∨ ∃ g, v1.ownBlock = some g ∧ W.heap.size < g) := by
  obtain ⟨i0, hi, hz0, hz1, hz2⟩ := info_three infoFl
  obtain ⟨V, hV⟩ : ∃ V, W.alloc (.cells #[.int .i64 k, .int .i64 p, .int .i64 q, .int .i64 u, .int .i64 v, .int .i64 c, .int .i64 x, .int .i64 y] 38) = V := ⟨_, rfl⟩
  have hF : Ft V W.heap.size k p q u v c x y := by rw [← hV]; exact Ft.new W k p q u v c x y _
  have hs : V.heap.size = W.heap.size + 1 := by rw [← hV]; simp
  have ho : V.ownsRow lo 38 8 v0 l (fcells12 l Z) := by rw [← hV]; exact h.alloc _
  have hg0 : W.grownBy V v0.ownBlock := by rw [← hV]; exact World.grownBy_alloc W _ _
  rw [hV]
  clear hV
  obtain ⟨v1, W', hr, h1, h2, _, h4⟩ := run_append_own_at (P := Try.prog) V lo 45 ty 38 i0 _ 8 64 Try.underlying45 hi hz0 hz1 hz2 rfl (by decide) v0 l (fcells12 l Z) ho ⟨W.heap.size, 0, none⟩ 1 1 (ints .i64 8 (ffn k p q u v c x y)) (by simp [ints_len]) (fun j w hj => by
    rw [Addr.add_lit, Nat.zero_add]
    have := hF.range j w hj
    rwa [Nat.zero_add] at this) (ints_one' .i64 8 _) (by unfold maxLen; omega) (by omega) (by omega)
  rw [fcells12_snoc] at h1
  refine ⟨v1, W', hr, h1, grown_trans hg0 h2, ?_⟩
  rcases h4 with h4 | h4
  · exact .inl h4
  · exact .inr ⟨_, h4, by omega⟩
end Go.Proofs.Ytcpjmfemgdgplaa
