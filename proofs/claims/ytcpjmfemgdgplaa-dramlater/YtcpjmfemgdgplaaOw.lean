/-
  A slice of integers that a call owns and lets grow.
-/
import Derived.Test.YtcpjmfemgdgplaaAry
import Derived.OwnWalk
import Derived.OwnWalkIn
import Derived.Maps.AppendAt
import Derived.Deep.Onto
namespace Go.Proofs.Ytcpjmfemgdgplaa
open Go.RowKit
attribute [local go_sem] Oper.semAt_some

/-- the first n numbers that F tells -/
def lst (F : Nat → Nat) (n : Nat) : List Value := (List.range n).map fun x => .int .i64 (F x : Int)
theorem lst_snoc (F : Nat → Nat) (n : Nat) : lst F n ++ [.int .i64 (F n : Int)] = lst F (n + 1) := by simp [lst, List.range_succ]
theorem lst_at (F : Nat → Nat) (n i : Nat) (h : i < n) : (lst F n)[i]? = some (.int .i64 (F i : Int)) := by simp [lst, h]
theorem lst_congr {F G : Nat → Nat} {n : Nat} (h : ∀ x, x < n → F x = G x) : lst F n = lst G n := by
  unfold lst
  exact List.map_congr_left fun x hx => by rw [h x (List.mem_range.1 hx)]
theorem i64_info : (Try.prog.info? 3).map (fun i => (i.zero, i.size, i.bytes)) = some (some (.int .i64 0), 1, 8) := by kernel_rfl
theorem info_three {P : Program} {e : TypeId} {z : Option Value} {s b : Nat} (h : (P.info? e).map (fun i => (i.zero, i.size, i.bytes)) = some (z, s, b)) : ∃ i, P.info? e = some i ∧ i.zero = z ∧ i.size = s ∧ i.bytes = b := by
  obtain ⟨i, hi, h2⟩ := Option.map_eq_some_iff.1 h
  simp only [Prod.mk.injEq] at h2
  exact ⟨i, hi, h2.1, h2.2.1, h2.2.2⟩

/-- a slice of integers in blocks from B on: its first n numbers are F's -/
def Ow (W : World) (B : Nat) (v : Value) (n : Nat) (F : Nat → Nat) : Prop := W.ownsRow B 3 1 v n (lst F n)
theorem Ow.nil (W : World) (B : Nat) (F : Nat → Nat) : Ow W B (.slice none 0 0) 0 F := World.ownsRow_nil W B _ _
theorem Ow.of {W W' : World} {B : Nat} {v : Value} {n : Nat} {F : Nat → Nat} (h : Ow W B v n F) (k : ∀ g, v.ownBlock = some g → W'.heap[g]? = W.heap[g]?) : Ow W' B v n F := by
  refine ⟨h.1, ?_⟩
  rcases h.2 with hn | ⟨g, cap, cur, rfl, hb, hg, rest⟩
  · exact .inl hn
  · exact .inr ⟨g, cap, cur, rfl, hb, (k g rfl).trans hg, rest⟩
theorem Ow.lt {W : World} {B : Nat} {v : Value} {n : Nat} {F : Nat → Nat} (h : Ow W B v n F) : ∀ g, v.ownBlock = some g → B ≤ g ∧ g < W.heap.size := World.ownsRow.lt h
theorem Ow.next {W W' : World} {B : Nat} {v : Value} {n : Nat} {F : Nat → Nat} (h : Ow W B v n F) (k : Below W.heap.size W W') : Ow W' B v n F := h.of fun g hg => k.block g (h.lt g hg).2
theorem Ow.alloc {W : World} {B : Nat} {v : Value} {n : Nat} {F : Nat → Nat} (h : Ow W B v n F) (o : Obj) : Ow (W.alloc o) B v n F := World.ownsRow.alloc h o
theorem Ow.stay {C : Nat} {W W' : World} {B : Nat} {v : Value} {n : Nat} {F : Nat → Nat} (h : Ow W B v n F) (k : Stay C W W') : Ow W' B v n F := by
  have h' := h
  rcases h.2 with hn | ⟨g, cap, cur, rfl, hb, hg, rest⟩
  · exact ⟨h.1, .inl hn⟩
  · refine h'.of fun g' hg' => ?_
    cases hg'
    exact (k.cells _ _ hg rfl).trans hg.symm
theorem one_new7 (W : World) (v : Value) (t : TypeId) : ∀ j u, [v][j]? = some u → (W.alloc (.cells #[v] t)).cell? ((⟨W.heap.size, 0, none⟩ : Addr).add j) = some u := by
  intro j u hj
  cases j with
  | zero =>
    simp at hj
    subst hj
    exact (Box.new W t v).1
  | succ j => simp at hj
theorem one_one7 (x : Int) : ∀ u ∈ [Value.int .i64 x], u.oneCell' = true := by
  intro u hu
  simp at hu
  subst hu
  rfl
theorem below_grown7 {B : Nat} {w W W' : World} {row : Option Nat} (h : Below B w W) (k : W.grownBy W' row) (hr : ∀ g, row = some g → B ≤ g) (hB : B ≤ W.heap.size) : Below B w W' :=
  ⟨k.os.trans h.os, k.tape.trans h.tape, k.output.trans h.output, Nat.le_trans h.size k.size, fun b hb => (k.block b (by omega) (fun e => by have := hr b e.symm; omega)).trans (h.block b hb)⟩
theorem Ow.open {W : World} {B : Nat} {v : Value} {n : Nat} {F : Nat → Nat} (h : Ow W B v n F) (hn : 0 < n) : ∃ g cap, v = .slice (some ⟨g, 0, none⟩) n cap ∧ B ≤ g ∧ g < W.heap.size := by
  rcases h.2 with hn | ⟨g, cap, cur, rfl, hb, hg, rest⟩
  · omega
  · exact ⟨g, cap, rfl, hb, (Array.getElem?_eq_some_iff.1 hg).1⟩
theorem Ow.cell {W : World} {B : Nat} {n g cap : Nat} {F : Nat → Nat} (h : Ow W B (.slice (some ⟨g, 0, none⟩) n cap) n F) (i : Nat) (hi : i < n) : W.cell? ⟨g, i, none⟩ = some (.int .i64 (F i : Int)) := by
  rcases h.2 with ⟨hv, _⟩ | ⟨g', cap', cur, hv, hb, hg, h1, h2, h3, h4⟩
  · cases hv
  · cases hv
    rw [cell_of_row _ _ i _ _ (0, 0) hg]
    have := lst_at F n i hi
    rw [← h4, List.getElem?_take, if_pos (by omega)] at this
    simpa using this
end Go.Proofs.Ytcpjmfemgdgplaa
