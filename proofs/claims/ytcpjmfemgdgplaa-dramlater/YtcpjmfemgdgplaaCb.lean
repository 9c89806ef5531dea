/-
  Blocks of values of any kinds: a list of cells.
-/
import Derived.Test.YtcpjmfemgdgplaaAry
namespace Go.Proofs.Ytcpjmfemgdgplaa
open Go.RowKit

/-- block b is these cells -/
def Cb (W : World) (b : Nat) (L : List Value) : Prop := ∃ t, W.heap[b]? = some (.cells L.toArray t (0, 0))
/-- a list with another one laid into it -/
def plt (L : List Value) (o : Nat) (vs : List Value) : List Value := (List.range L.length).map fun j => if o ≤ j ∧ j < o + vs.length then vs[j - o]?.getD default else L[j]?.getD default
section
variable {W W' : World} {b : Nat} {L : List Value}
theorem Cb.new (W : World) (L : List Value) (t : TypeId) : Cb (W.alloc (.cells L.toArray t)) W.heap.size L := ⟨t, World.alloc_heap_new W _⟩
theorem Cb.of (h : Cb W b L) (e : W'.heap[b]? = W.heap[b]?) : Cb W' b L := by
  obtain ⟨t, h⟩ := h
  exact ⟨t, e.trans h⟩
theorem Cb.lt (h : Cb W b L) : b < W.heap.size := by
  obtain ⟨t, h⟩ := h
  exact (Array.getElem?_eq_some_iff.1 h).1
theorem Cb.alloc (h : Cb W b L) (o : Obj) : Cb (W.alloc o) b L := h.of (Below.heap_alloc W o b h.lt)
theorem Cb.below {C : Nat} (h : Cb W b L) (e : Below C W W') (hb : b < C) : Cb W' b L := h.of (e.block b hb)
theorem Cb.next (h : Cb W b L) (e : Below W.heap.size W W') : Cb W' b L := h.below e h.lt
theorem Cb.stay {B : Nat} (h : Cb W b L) (e : Stay B W W') : Cb W' b L := by
  obtain ⟨t, h⟩ := h
  exact ⟨t, e.cells _ _ h rfl⟩
theorem Cb.keep {M : Nat → Prop} (h : Cb W b L) (e : Keep M W W') (hm : ¬ M b) : Cb W' b L := h.of (e.2 b h.lt hm)
theorem Cb.drewN (h : Cb W b L) (j : Nat) : Cb (W.drewN j) b L := h
theorem Cb.row (h : Cb W b L) : ∃ t, W.rowIs b t L.length (fun i => L[i]?.getD default) := by
  obtain ⟨t, h⟩ := h
  refine ⟨t, _, h, by simp, fun i hi => ?_⟩
  simp [List.getElem?_eq_getElem hi]
theorem Cb.ofRow {t : TypeId} {n : Nat} {f : Nat → Value} (h : W.rowIs b t n f) : Cb W b ((List.range n).map f) := by
  obtain ⟨c, h1, h2, h3⟩ := h
  refine ⟨t, ?_⟩
  rw [h1]
  have : c = ((List.range n).map f).toArray := by
    refine Array.ext_getElem? fun i => ?_
    by_cases hi : i < n
    · rw [h3 i hi]; simp [hi]
    · rw [Array.getElem?_eq_none (by omega), Array.getElem?_eq_none (by simp; omega)]
  rw [this]
theorem Cb.cell (h : Cb W b L) {i : Nat} {v : Value} (hv : L[i]? = some v) : W.cell? ⟨b, i, none⟩ = some v := by
  obtain ⟨t, h⟩ := h
  rw [cell_of_row _ _ i _ _ (0, 0) h]
  simpa using hv
theorem Cb.free (h : Cb W b L) (i : Nat) : W.frozen? ⟨b, i, none⟩ = false := by
  obtain ⟨t, h⟩ := h.row
  exact h.frozen i
theorem Cb.rangeAt (h : Cb W b L) (o : Nat) (cs : List Value) (hs : (L.drop o).take cs.length = cs) : W.rangeAt b o cs := fun j v hv => by
  refine h.cell ?_
  have hj : j < cs.length := (List.getElem?_eq_some_iff.1 hv).1
  rw [← hs, List.getElem?_take, if_pos hj, List.getElem?_drop] at hv
  exact hv
theorem Cb.range (h : Cb W b L) : W.rangeAt b 0 L := h.rangeAt 0 L (by simp)
theorem Cb.thereAt (h : Cb W b L) (o m : Nat) (hm : o + m ≤ L.length) : W.there b o m := fun j hj => by
  rw [h.cell (i := o + j) (List.getElem?_eq_getElem (by omega))]; exact ⟨rfl, h.free _⟩
theorem Cb.set (h : Cb W b L) (i : Nat) (v : Value) : Cb (W.setCell ⟨b, i, none⟩ v) b (L.set i v) := by
  obtain ⟨t, h⟩ := h.row
  have h2 := Cb.ofRow (h.set i v)
  have e : (List.range L.length).map (fun j => if j = i then v else L[j]?.getD default) = L.set i v := by
    refine List.ext_getElem? fun j => ?_
    by_cases hj : j < L.length
    · by_cases hji : j = i
      · subst hji; simp [hj]
      · rw [List.getElem?_set_ne (fun e => hji e.symm)]
        simp [hj, hji]
    · rw [List.getElem?_eq_none (by simp; omega), List.getElem?_eq_none (by simp; omega)]
  rwa [← e]
theorem Cb.put (h : Cb W b L) (o : Nat) (vs : List Value) : Cb (W.setCells b o vs) b (plt L o vs) := by
  obtain ⟨t, h⟩ := h.row
  exact Cb.ofRow (rows_put vs o W _ h)
theorem Cb.other (h : Cb W b L) {c : Nat} (hc : b ≠ c) (i : Nat) (v : Value) : Cb (W.setCell ⟨c, i, none⟩ v) b L := h.of (Below.heap_setCell W ⟨c, i, none⟩ v b hc)
theorem Cb.putOther (h : Cb W b L) {c : Nat} (hc : b ≠ c) (o : Nat) (vs : List Value) : Cb (W.setCells c o vs) b L := h.of (heap_puts c vs o W b hc)
theorem Cb.to {L' : List Value} (h : Cb W b L) (e : L = L') : Cb W b L' := e ▸ h
theorem Bk.cb {k : IntKind} {n : Nat} {F : Nat → Int} (h : Bk k W b n F) : Cb W b (ints k n F) := h
theorem Cb.bk {k : IntKind} {n : Nat} {F : Nat → Int} (h : Cb W b (ints k n F)) : Bk k W b n F := h
end
end Go.Proofs.Ytcpjmfemgdgplaa
