/-
  Arrays of integers as arguments: what a row's condition tells of one, and that it reads as it read.
-/
import Derived.Test.YtcpjmfemgdgplaaRows
import Derived.WalkKit
import Derived.ProofKit
import Derived.OpenShut
namespace Go.Proofs.Ytcpjmfemgdgplaa
open Go.ChangeShapes Go.WideShapes Go.ChangeAt Go.RowKit

/-- n integers -/
def ints (k : IntKind) (n : Nat) (F : Nat → Int) : List Value := (List.range n).map fun i => Value.int k (F i)
def intsD {H : Type} (k : IntKind) (n : Nat) (F : Nat → Int) : DataW H := .agg ((List.range n).map fun i => DataW.lit (.int k (F i)))
theorem ints_len (k : IntKind) (n : Nat) (F : Nat → Int) : (ints k n F).length = n := by simp [ints]
theorem ints_at (k : IntKind) (n : Nat) (F : Nat → Int) (i : Nat) (h : i < n) : (ints k n F)[i]? = some (.int k (F i)) := by simp [ints, h]

section
variable {H : Type} {enc : TypeId × Value → H} {P : Program} {w : World} {base : Nat} {spare : Nat → Bool} {held : Bool} {t : TypeId}

theorem okWide_array {r : Reach} {b0 n : Nat} {e : TypeId} {v : Value} (ht : P.underlying t = some (.array n e)) (h : Value.okWide P w r b0 t v) : ∃ cs, v = .agg cs ∧ cs.size = P.cellsOf t := by
  simp only [Value.okWide, ht] at h
  obtain ⟨cs, h1, h2, _⟩ := h
  exact ⟨cs, h1, h2⟩
theorem open_ints {r : Reach} {b0 n : Nat} {e : TypeId} {k : IntKind} {v : Value} {d : DataW H} {ps : List MemPlace} (ht : P.underlying t = some (.array n e)) (he : P.underlying e = some (.int k)) (hce : P.cellsOf e = 1) (hct : P.cellsOf t = n)
    (hval : Value.okWide P w r b0 t v) (hd : DataW.Trod enc P w base spare held t v d ps) :
    ∃ F : Nat → Int, v = .agg (ints k n F).toArray ∧ d = intsD k n F ∧ ps = [] ∧ ∀ i, i < n → (Lit.int k (F i)).wf = true := by
  obtain ⟨cs, rfl, hsz⟩ := okWide_array ht hval
  obtain ⟨fuel, hf⟩ := hd
  obtain ⟨xs, m, _, hx, hl, hxs, hel⟩ := DataW.trod_array ht hf
  simp only [Prod.mk.injEq] at hx
  rw [hce] at hel
  have hcl : cs.toList.length = n := by rw [← hct]; simpa [Value.cells] using hl
  have each : ∀ i, i < n → ∃ z : Int, cs.toList[i]? = some (.int k z) ∧ xs[i]? = some (.lit (.int k z), []) ∧ (Lit.int k z).wf = true := by
    intro i hi
    have h1 := hel i hi
    have hxi : ∃ y, xs[i]? = some y := ⟨_, List.getElem?_eq_getElem (by omega)⟩
    obtain ⟨y, hy⟩ := hxi
    rw [hy] at h1
    obtain ⟨z, hz, hyz, hw⟩ := DataW.trod_int he h1
    have hc : cs.toList[i]? = some (.int k z) := by
      have e1 : ((cs.toList.drop (i * 1)).take 1)[0]? = cs.toList[i]? := by
        rw [List.getElem?_take, if_pos (by omega), List.getElem?_drop, Nat.mul_one, Nat.add_zero]
      have hz' : (cs.toList.drop (i * 1)).take 1 = [.int k z] := by simpa [Value.cells] using hz
      rw [← e1, hz']; rfl
    exact ⟨z, hc, by rw [hy, hyz], hw⟩
  obtain ⟨F, hF⟩ : ∃ F : Nat → Int, ∀ i, i < n → cs.toList[i]? = some (.int k (F i)) ∧ xs[i]? = some (.lit (.int k (F i)), []) ∧ (Lit.int k (F i)).wf = true :=
    ⟨fun i => if h : i < n then Classical.choose (each i h) else 0, fun i hi => by
      simp only [hi, dif_pos]
      exact Classical.choose_spec (each i hi)⟩
  refine ⟨F, ?_, ?_, ?_, fun i hi => (hF i hi).2.2⟩
  · congr 1
    apply Array.ext'
    simp only
    refine List.ext_getElem? fun i => ?_
    by_cases hi : i < n
    · rw [(hF i hi).1, ints_at k n F i hi]
    · rw [List.getElem?_eq_none (by omega), List.getElem?_eq_none (by rw [ints_len]; omega)]
  · rw [hx.1]
    unfold intsD
    congr 1
    refine List.ext_getElem? fun i => ?_
    by_cases hi : i < n
    · rw [List.getElem?_map, (hF i hi).2.1]; simp [hi]
    · rw [List.getElem?_eq_none (by simp; omega), List.getElem?_eq_none (by simp; omega)]
  · rw [hx.2]
    refine List.flatMap_eq_nil_iff.2 fun y hy => ?_
    obtain ⟨i, hi⟩ := List.mem_iff_getElem?.1 hy
    have hin : i < n := by have := (List.getElem?_eq_some_iff.1 hi).1; omega
    rw [(hF i hin).2.1] at hi
    cases hi; rfl
theorem shut_ints {n : Nat} {e : TypeId} {k : IntKind} {F : Nat → Int} (ht : P.underlying t = some (.array n e)) (he : P.underlying e = some (.int k)) (hce : P.cellsOf e = 1) (hct : P.cellsOf t = n)
    (hw : ∀ i, i < n → (Lit.int k (F i)).wf = true) : DataW.Trod enc P w base spare held t (.agg (ints k n F).toArray) (intsD k n F) [] := by
  refine ⟨2, ?_⟩
  have each : ∀ i ∈ List.range n, DataW.trod enc P w base spare held 1 e ((((ints k n F).toArray.toList).drop (i * P.cellsOf e)).take (P.cellsOf e)) = some (DataW.lit (.int k (F i)), []) := by
    intro i hi
    have hin := List.mem_range.1 hi
    have hz : (((ints k n F).toArray.toList).drop (i * P.cellsOf e)).take (P.cellsOf e) = [.int k (F i)] := by
      rw [hce, Nat.mul_one]
      refine List.ext_getElem? fun j => ?_
      cases j with
      | zero => rw [List.getElem?_take, if_pos (by omega), List.getElem?_drop, Nat.add_zero]; simpa using ints_at k n F i hin
      | succ j => rw [List.getElem?_take, if_neg (by omega)]; rfl
    rw [hz]
    simp [DataW.trod, he, hw i hin]
  have hm : (List.range n).mapM (fun i => DataW.trod enc P w base spare held 1 e ((((ints k n F).toArray.toList).drop (i * P.cellsOf e)).take (P.cellsOf e))) = some ((List.range n).map fun i => (DataW.lit (.int k (F i)), ([] : List MemPlace))) := by
    generalize List.range n = l at each
    induction l with
    | nil => rfl
    | cons a l ih =>
      rw [List.mapM_cons, each a (by simp), ih (fun i hi => each i (by simp [hi]))]
      rfl
  unfold DataW.trod
  rw [ht]
  have hlen : (Value.agg (ints k n F).toArray).cells.toList.length = P.cellsOf t := by rw [hct]; exact ints_len k n F
  show (if (Value.agg (ints k n F).toArray).cells.toList.length = P.cellsOf t then _ else none) = _
  rw [if_pos hlen]
  refine (congrArg (Option.map _) hm).trans ?_
  simp only [Option.map_some, Option.some.injEq, Prod.mk.injEq]
  constructor
  · unfold intsD
    congr 1
    rw [List.map_map]; rfl
  · refine List.flatMap_eq_nil_iff.2 fun y hy => ?_
    obtain ⟨i, _, rfl⟩ := List.mem_map.1 hy
    rfl
end
end Go.Proofs.Ytcpjmfemgdgplaa
