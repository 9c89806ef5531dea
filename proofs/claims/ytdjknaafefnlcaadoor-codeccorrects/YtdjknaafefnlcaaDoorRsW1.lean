/-
  Arrays of bytes by value; the document's word, value, values.
-/
import Derived.Test.YtdjknaafefnlcaaDoorGfW3
import Derived.Test.YtdjknaafefnlcaaDoorRsMath
import Derived.Test.YtdjknaafefnlcaaDoorRange
import Derived.Deep.MidRow
import Derived.Deep.RegionHeld3
namespace Go.Proofs.YtdjknaafefnlcaaDoor
open Go.RowKit
open Gf (gI)
open Po (El mu pwr ev S)
open Rm (al sy)

/-- an element as the program's byte -/
def oe (e : El) : Int := ((e.toNat : Nat) : Int)
theorem oe_bd (e : El) : 0 ≤ oe e ∧ oe e < 256 := by
  have := e.isLt; unfold oe; omega
theorem oe_inj {a b : El} (h : oe a = oe b) : a = b := Po.el_ext (by unfold oe at h; omega)
theorem oe_zero : oe 0 = 0 := rfl
theorem oe_mu (a b : El) : gI (oe a) (oe b) = oe (mu a b) := by unfold oe gI; rw [Po.mu_toNat]; simp
theorem oe_xor (a b : El) : bits .xor .u8 (oe a) (oe b) = oe (a ^^^ b) := by
  unfold oe; rw [u8_xor_nat _ _ a.isLt b.isLt, BitVec.toNat_xor]
theorem oe_eq (a b : El) : (oe a == oe b) = decide (a = b) := by
  by_cases h : a = b
  · rw [h]; simp
  · have : oe a ≠ oe b := fun e => h (oe_inj e)
    simp [h, this]
theorem oe_eq0 (a : El) : (oe a == 0) = decide (a = 0) := oe_eq a 0
/-! ### arrays -/
/-- n bytes -/
def arr (n : Nat) (F : Nat → El) : List Value := (List.range n).map fun i => Value.int .u8 (oe (F i))
theorem arr_len (n : Nat) (F : Nat → El) : (arr n F).length = n := by simp [arr]
theorem arr_at (n : Nat) (F : Nat → El) (i : Nat) (h : i < n) : (arr n F)[i]? = some (.int .u8 (oe (F i))) := by
  simp [arr, h]
theorem arr_congr (n : Nat) (F G : Nat → El) (h : ∀ i, i < n → F i = G i) : arr n F = arr n G := by
  unfold arr
  refine List.map_congr_left fun i hi => ?_
  rw [h i (List.mem_range.1 hi)]
theorem arr_inj (n : Nat) (F G : Nat → El) (h : arr n F = arr n G) : ∀ i, i < n → F i = G i := by
  intro i hi
  have e := arr_at n F i hi
  rw [h, arr_at n G i hi] at e
  simp only [Option.some.injEq, Value.int.injEq, true_and] at e
  exact (oe_inj e).symm
theorem arr_one (n : Nat) (F : Nat → El) : (arr n F).toArray.all (·.oneCell') = true := by
  refine all_oneCell_toArray fun v hv => ?_
  obtain ⟨i, _, rfl⟩ := List.mem_map.1 hv
  rfl
/-- block b holds n bytes from its head on -/
def Arr (W : World) (b n : Nat) (F : Nat → El) : Prop := ∀ i : Nat, i < n → W.cell? ⟨b, i, none⟩ = some (.int .u8 (oe (F i)))
theorem Arr.of {W W' : World} {b n : Nat} {F : Nat → El} (h : Arr W b n F) (k : W'.heap[b]? = W.heap[b]?) : Arr W' b n F := fun i hi => (World.cell?_of_block (w := W) (a := ⟨b, i, none⟩) k).trans (h i hi)
theorem Arr.below {C : Nat} {W W' : World} {b n : Nat} {F : Nat → El} (h : Arr W b n F) (k : Below C W W') (hb : b < C) : Arr W' b n F := h.of (k.block b hb)
theorem Arr.range {W : World} {b n : Nat} {F : Nat → El} (h : Arr W b n F) : W.rangeAt b 0 (arr n F) := fun j v hv => by
  have hj : j < n := by have := (List.getElem?_eq_some_iff.1 hv).1; rw [arr_len] at this; exact this
  rw [arr_at n F j hj] at hv
  cases hv
  rw [Nat.zero_add]; exact h j hj
theorem Arr.ofRange {W : World} {b n : Nat} {F : Nat → El} (h : W.rangeAt b 0 (arr n F)) : Arr W b n F := fun i hi => by
  have := h i _ (arr_at n F i hi)
  rw [Nat.zero_add] at this; exact this
theorem Arr.new (W : World) (n : Nat) (F : Nat → El) (t : TypeId) : Arr (W.alloc (.cells (arr n F).toArray t)) W.heap.size n F := fun i hi => by
  rw [World.cell?_alloc_new]
  simpa using arr_at n F i hi
theorem Arr.congr {W : World} {b n : Nat} {F G : Nat → El} (h : Arr W b n F) (k : ∀ i, i < n → F i = G i) : Arr W b n G := fun i hi => by rw [← k i hi]; exact h i hi
theorem Arr.alloc {W : World} {b n : Nat} {F : Nat → El} (h : Arr W b n F) (hb : b < W.heap.size) (o : Obj) : Arr (W.alloc o) b n F := h.of (Below.heap_alloc W o b hb)
/-- and they may be written -/
structure ArrW (W : World) (b n : Nat) (F : Nat → El) : Prop where
  at_ : Arr W b n F
  free : ∀ i : Nat, i < n → W.frozen? ⟨b, i, none⟩ = false
theorem ArrW.of {W W' : World} {b n : Nat} {F : Nat → El} (h : ArrW W b n F) (k : W'.heap[b]? = W.heap[b]?) : ArrW W' b n F :=
  ⟨h.at_.of k, fun i hi => (World.frozen?_of_block (w := W) (a := ⟨b, i, none⟩) k).trans (h.free i hi)⟩
theorem ArrW.set {W : World} {b n : Nat} {F : Nat → El} (h : ArrW W b n F) (i : Nat) (hi : i < n) (e : El) : ArrW (W.setCell ⟨b, i, none⟩ (.int .u8 (oe e))) b n (fun k => if k = i then e else F k) := by
  constructor
  · intro k hk
    show _ = some (Value.int .u8 (oe (if k = i then e else F k)))
    by_cases hki : k = i
    · rw [if_pos hki, hki]
      exact World.cell?_setCell_same' _ _ _ (by rw [h.at_ i hi]; rfl)
    · rw [if_neg hki]
      have hne : (⟨b, i, none⟩ : Addr) ≠ ⟨b, k, none⟩ := fun e => hki (by simp only [Addr.mk.injEq] at e; exact e.2.1.symm)
      rw [World.cell?_setCell_other _ _ _ _ hne]; exact h.at_ k hk
  · intro k hk
    rw [World.frozen?_setCell]; exact h.free k hk
theorem ArrW.there {W : World} {b n : Nat} {F : Nat → El} (h : ArrW W b n F) : W.there b 0 n := fun j hj => by
  rw [Nat.zero_add, h.at_ j hj]; exact ⟨rfl, h.free j hj⟩
end Go.Proofs.YtdjknaafefnlcaaDoor
